/- Parts of the proofs of Eo. -/
import Derived.Test.YtbmmdkbinlnogaaDoorQEoBI
import Derived.Shelf.SlSortCmp.WholeK
import Derived.Ground.SlsfProg
import Derived.Test.YtbmmdkbinlnogaaDoorProg
import Derived.Shelf.SlSortCmp.NoneTotal
import Derived.Shelf.Strings.IndexAnyAll
import Derived.Laws.Runes
import Derived.Lib.OthersKept
import Derived.Lib.DecodeN
import Derived.Shelf.Small.Utf8
import Derived.WalkMore
import Derived.BigCall
import Derived.BigGuard
import Derived.Deep.Draws
import Derived.Lib.TrimU
namespace Go.Proofs.YtbmmdkbinlnogaaDoor.Aw
open Go
set_option linter.unusedSimpArgs false
set_option linter.unusedVariables false
structure CaOk [Tabs Tryd.prog] : Prop where
  three : ∀ s : List UInt8, s.length ≤ 200 → Con Tryd.prog n_strings_ContainsAny [str s, .sc (.string ⟨#[0, 10, 58]⟩)] (boo (hasB s 0 || (hasB s 10 || hasB s 58)))
  two : ∀ s : List UInt8, s.length ≤ 200 → Con Tryd.prog n_strings_ContainsAny [str s, .sc (.string ⟨#[0, 10]⟩)] (boo (hasB s 0 || hasB s 10))
set_option maxHeartbeats 1000000 in
set_option maxRecDepth 100000 in
theorem isOwner_c [Tabs Tryd.prog] (hca : CaOk) (s : List UInt8) (hs : s.length ≤ 1000000) : Con Tryd.prog n_entry_isOwner [str s] (boo (ownOk s)) := by
  refine Con.of' mix Tryd.func34 rfl Tryd.ntmps34 e_entry_isOwner r_entry_isOwner (by simp) rfl rfl ?_
  unfold s_entry_isOwner
  obtain ⟨Z, hZ⟩ : ∃ Z, Z = ownOk s := ⟨_, rfl⟩
  rw [← hZ]
  rw [ownOk] at hZ
  by_cases h1 : s.length ≤ 31
  case neg =>
    have d1 : decide ((s.length : Int) ≤ 31) = false := decide_eq_false (by omega)
    rw [decide_eq_false h1, Bool.false_and] at hZ
    subst hZ
    repeat (first | refine wA ?_ | refine wB ?_ | refine wC rfl ?_ | refine wD rfl ?_ | refine wE ?_ | refine wF (by omega) ?_ | ((first | refine wG ?_ | refine wH ?_ | refine wI ?_ | refine wJ ?_ | refine wK ?_ | refine wL ?_); simp (disch := omega) only [wP, wZ, undef, UInt8.reduceToNat, Nat.reduceOr, Nat.reduceAnd, Nat.reduceXor, Nat.reduceDiv, if_pos, if_neg, aStore, frz, AV.flat, ↓reduceIte, ne_eq, reduceCtorEq, Int.reduceToNat, Nat.reduceEqDiff, Nat.reduceAdd, Nat.reduceSub, Nat.reduceMul, Int.reduceAdd, Int.reduceMul, Int.reduceSub, Int.reduceLT, Int.reduceLE, Int.reduceEq, Int.reduceNe, Nat.reduceLeDiff, Nat.reduceLT, Int.reduceNeg, Nat.reducePow, Nat.reduceMod, ByteArray.size, boo, d1]))
  have d1 : decide ((s.length : Int) ≤ 31) = true := decide_eq_true (by omega)
  rw [decide_eq_true h1, Bool.true_and] at hZ
  repeat (first | refine wA ?_ | refine wB ?_ | refine wC rfl ?_ | refine wD rfl ?_ | refine wE ?_ | refine wF (by omega) ?_ | ((first | refine wG ?_ | refine wH ?_ | refine wI ?_ | refine wJ ?_ | refine wK ?_ | refine wL ?_); simp (disch := omega) only [wP, wZ, undef, UInt8.reduceToNat, Nat.reduceOr, Nat.reduceAnd, Nat.reduceXor, Nat.reduceDiv, if_pos, if_neg, aStore, frz, AV.flat, ↓reduceIte, ne_eq, reduceCtorEq, Int.reduceToNat, Nat.reduceEqDiff, Nat.reduceAdd, Nat.reduceSub, Nat.reduceMul, Int.reduceAdd, Int.reduceMul, Int.reduceSub, Int.reduceLT, Int.reduceLE, Int.reduceEq, Int.reduceNe, Nat.reduceLeDiff, Nat.reduceLT, Int.reduceNeg, Nat.reducePow, Nat.reduceMod, ByteArray.size, boo, d1]))
  refine goC_p _ (.inl ⟨rfl, hca.three s (by omega)⟩) ?_
  have e : Z = !(hasB s 0 || (hasB s 10 || hasB s 58)) := by rw [hZ]; simp
  cases h2 : (hasB s 0 || (hasB s 10 || hasB s 58))
  · rw [h2] at e
    subst e
    repeat (first | refine wA ?_ | refine wB ?_ | refine wC rfl ?_ | refine wD rfl ?_ | refine wE ?_ | refine wF (by omega) ?_ | ((first | refine wG ?_ | refine wH ?_ | refine wI ?_ | refine wJ ?_ | refine wK ?_ | refine wL ?_); simp (disch := omega) only [wP, wZ, undef, UInt8.reduceToNat, Nat.reduceOr, Nat.reduceAnd, Nat.reduceXor, Nat.reduceDiv, if_pos, if_neg, aStore, frz, AV.flat, ↓reduceIte, ne_eq, reduceCtorEq, Int.reduceToNat, Nat.reduceEqDiff, Nat.reduceAdd, Nat.reduceSub, Nat.reduceMul, Int.reduceAdd, Int.reduceMul, Int.reduceSub, Int.reduceLT, Int.reduceLE, Int.reduceEq, Int.reduceNe, Nat.reduceLeDiff, Nat.reduceLT, Int.reduceNeg, Nat.reducePow, Nat.reduceMod, ByteArray.size, boo, d1]))
  · rw [h2] at e
    subst e
    repeat (first | refine wA ?_ | refine wB ?_ | refine wC rfl ?_ | refine wD rfl ?_ | refine wE ?_ | refine wF (by omega) ?_ | ((first | refine wG ?_ | refine wH ?_ | refine wI ?_ | refine wJ ?_ | refine wK ?_ | refine wL ?_); simp (disch := omega) only [wP, wZ, undef, UInt8.reduceToNat, Nat.reduceOr, Nat.reduceAnd, Nat.reduceXor, Nat.reduceDiv, if_pos, if_neg, aStore, frz, AV.flat, ↓reduceIte, ne_eq, reduceCtorEq, Int.reduceToNat, Nat.reduceEqDiff, Nat.reduceAdd, Nat.reduceSub, Nat.reduceMul, Int.reduceAdd, Int.reduceMul, Int.reduceSub, Int.reduceLT, Int.reduceLE, Int.reduceEq, Int.reduceNe, Nat.reduceLeDiff, Nat.reduceLT, Int.reduceNeg, Nat.reducePow, Nat.reduceMod, ByteArray.size, boo, d1]))
set_option maxHeartbeats 1000000 in
set_option maxRecDepth 100000 in
theorem pointsRight_c [Tabs Tryd.prog] (hca : CaOk) (e : Ent) (he : entS e) : Con Tryd.prog n_entry_pointsRight [entV e] (boo (linkOk e)) := by
  obtain ⟨s1, s2, s3, s4, s5⟩ := he
  refine Con.of' mix Tryd.func35 rfl Tryd.ntmps35 e_entry_pointsRight r_entry_pointsRight (by simp) free_entV rfl ?_
  unfold s_entry_pointsRight
  obtain ⟨Z, hZ⟩ : ∃ Z, Z = linkOk e := ⟨_, rfl⟩
  rw [← hZ]
  rw [linkOk] at hZ
  by_cases k3 : e.kind = 3
  · have q3 : decide (e.kind = 3) = true := decide_eq_true k3
    rw [if_pos k3] at hZ
    by_cases l0 : e.link = []
    · have r0 : decide (e.link = []) = true := decide_eq_true l0
      rw [r0, Bool.not_true, Bool.false_and] at hZ
      subst hZ
      repeat (first | refine wA ?_ | refine wB ?_ | refine wC rfl ?_ | refine wD rfl ?_ | refine wE ?_ | refine wF (by omega) ?_ | ((first | refine wG ?_ | refine wH ?_ | refine wI ?_ | refine wJ ?_ | refine wK ?_ | refine wL ?_); simp (disch := omega) only [wP, wZ, undef, UInt8.reduceToNat, Nat.reduceOr, Nat.reduceAnd, Nat.reduceXor, Nat.reduceDiv, if_pos, if_neg, aStore, frz, AV.flat, ↓reduceIte, ne_eq, reduceCtorEq, Int.reduceToNat, Nat.reduceEqDiff, Nat.reduceAdd, Nat.reduceSub, Nat.reduceMul, Int.reduceAdd, Int.reduceMul, Int.reduceSub, Int.reduceLT, Int.reduceLE, Int.reduceEq, Int.reduceNe, Nat.reduceLeDiff, Nat.reduceLT, Int.reduceNeg, Nat.reducePow, Nat.reduceMod, ByteArray.size, boo, entV, entL, q3, r0]))
    have r0 : decide (e.link = []) = false := decide_eq_false l0
    rw [r0, Bool.not_false, Bool.true_and] at hZ
    by_cases l1 : e.link.length ≤ 200
    case neg =>
      have r1 : decide ((e.link.length : Int) ≤ 200) = false := decide_eq_false (by omega)
      rw [decide_eq_false l1, Bool.false_and] at hZ
      subst hZ
      repeat (first | refine wA ?_ | refine wB ?_ | refine wC rfl ?_ | refine wD rfl ?_ | refine wE ?_ | refine wF (by omega) ?_ | ((first | refine wG ?_ | refine wH ?_ | refine wI ?_ | refine wJ ?_ | refine wK ?_ | refine wL ?_); simp (disch := omega) only [wP, wZ, undef, UInt8.reduceToNat, Nat.reduceOr, Nat.reduceAnd, Nat.reduceXor, Nat.reduceDiv, if_pos, if_neg, aStore, frz, AV.flat, ↓reduceIte, ne_eq, reduceCtorEq, Int.reduceToNat, Nat.reduceEqDiff, Nat.reduceAdd, Nat.reduceSub, Nat.reduceMul, Int.reduceAdd, Int.reduceMul, Int.reduceSub, Int.reduceLT, Int.reduceLE, Int.reduceEq, Int.reduceNe, Nat.reduceLeDiff, Nat.reduceLT, Int.reduceNeg, Nat.reducePow, Nat.reduceMod, ByteArray.size, boo, entV, entL, q3, r0, r1]))
    have r1 : decide ((e.link.length : Int) ≤ 200) = true := decide_eq_true (by omega)
    rw [decide_eq_true l1, Bool.true_and] at hZ
    repeat (first | refine wA ?_ | refine wB ?_ | refine wC rfl ?_ | refine wD rfl ?_ | refine wE ?_ | refine wF (by omega) ?_ | ((first | refine wG ?_ | refine wH ?_ | refine wI ?_ | refine wJ ?_ | refine wK ?_ | refine wL ?_); simp (disch := omega) only [wP, wZ, undef, UInt8.reduceToNat, Nat.reduceOr, Nat.reduceAnd, Nat.reduceXor, Nat.reduceDiv, if_pos, if_neg, aStore, frz, AV.flat, ↓reduceIte, ne_eq, reduceCtorEq, Int.reduceToNat, Nat.reduceEqDiff, Nat.reduceAdd, Nat.reduceSub, Nat.reduceMul, Int.reduceAdd, Int.reduceMul, Int.reduceSub, Int.reduceLT, Int.reduceLE, Int.reduceEq, Int.reduceNe, Nat.reduceLeDiff, Nat.reduceLT, Int.reduceNeg, Nat.reducePow, Nat.reduceMod, ByteArray.size, boo, entV, entL, q3, r0, r1]))
    refine goC_p _ (.inl ⟨rfl, hca.two e.link l1⟩) ?_
    have ez : Z = !(hasB e.link 0 || hasB e.link 10) := by rw [hZ]; simp
    cases h2 : (hasB e.link 0 || hasB e.link 10)
    · rw [h2] at ez
      subst ez
      repeat (first | refine wA ?_ | refine wB ?_ | refine wC rfl ?_ | refine wD rfl ?_ | refine wE ?_ | refine wF (by omega) ?_ | ((first | refine wG ?_ | refine wH ?_ | refine wI ?_ | refine wJ ?_ | refine wK ?_ | refine wL ?_); simp (disch := omega) only [wP, wZ, undef, UInt8.reduceToNat, Nat.reduceOr, Nat.reduceAnd, Nat.reduceXor, Nat.reduceDiv, if_pos, if_neg, aStore, frz, AV.flat, ↓reduceIte, ne_eq, reduceCtorEq, Int.reduceToNat, Nat.reduceEqDiff, Nat.reduceAdd, Nat.reduceSub, Nat.reduceMul, Int.reduceAdd, Int.reduceMul, Int.reduceSub, Int.reduceLT, Int.reduceLE, Int.reduceEq, Int.reduceNe, Nat.reduceLeDiff, Nat.reduceLT, Int.reduceNeg, Nat.reducePow, Nat.reduceMod, ByteArray.size, boo, q3, r0, r1]))
    · rw [h2] at ez
      subst ez
      repeat (first | refine wA ?_ | refine wB ?_ | refine wC rfl ?_ | refine wD rfl ?_ | refine wE ?_ | refine wF (by omega) ?_ | ((first | refine wG ?_ | refine wH ?_ | refine wI ?_ | refine wJ ?_ | refine wK ?_ | refine wL ?_); simp (disch := omega) only [wP, wZ, undef, UInt8.reduceToNat, Nat.reduceOr, Nat.reduceAnd, Nat.reduceXor, Nat.reduceDiv, if_pos, if_neg, aStore, frz, AV.flat, ↓reduceIte, ne_eq, reduceCtorEq, Int.reduceToNat, Nat.reduceEqDiff, Nat.reduceAdd, Nat.reduceSub, Nat.reduceMul, Int.reduceAdd, Int.reduceMul, Int.reduceSub, Int.reduceLT, Int.reduceLE, Int.reduceEq, Int.reduceNe, Nat.reduceLeDiff, Nat.reduceLT, Int.reduceNeg, Nat.reducePow, Nat.reduceMod, ByteArray.size, boo, q3, r0, r1]))
  have q3 : decide (e.kind = 3) = false := decide_eq_false k3
  rw [if_neg k3] at hZ
  by_cases k4 : e.kind = 4
  · have q4 : decide (e.kind = 4) = true := decide_eq_true k4
    rw [if_pos k4] at hZ
    repeat (first | refine wA ?_ | refine wB ?_ | refine wC rfl ?_ | refine wD rfl ?_ | refine wE ?_ | refine wF (by omega) ?_ | ((first | refine wG ?_ | refine wH ?_ | refine wI ?_ | refine wJ ?_ | refine wK ?_ | refine wL ?_); simp (disch := omega) only [wP, wZ, undef, UInt8.reduceToNat, Nat.reduceOr, Nat.reduceAnd, Nat.reduceXor, Nat.reduceDiv, if_pos, if_neg, aStore, frz, AV.flat, ↓reduceIte, ne_eq, reduceCtorEq, Int.reduceToNat, Nat.reduceEqDiff, Nat.reduceAdd, Nat.reduceSub, Nat.reduceMul, Int.reduceAdd, Int.reduceMul, Int.reduceSub, Int.reduceLT, Int.reduceLE, Int.reduceEq, Int.reduceNe, Nat.reduceLeDiff, Nat.reduceLT, Int.reduceNeg, Nat.reducePow, Nat.reduceMod, ByteArray.size, boo, entV, entL, q3, q4]))
    refine goC_p _ (.inl ⟨rfl, Path_c e.link s4⟩) ?_
    cases l1 : pathOk e.link
    · rw [l1, Bool.false_and] at hZ
      subst hZ
      repeat (first | refine wA ?_ | refine wB ?_ | refine wC rfl ?_ | refine wD rfl ?_ | refine wE ?_ | refine wF (by omega) ?_ | ((first | refine wG ?_ | refine wH ?_ | refine wI ?_ | refine wJ ?_ | refine wK ?_ | refine wL ?_); simp (disch := omega) only [wP, wZ, undef, UInt8.reduceToNat, Nat.reduceOr, Nat.reduceAnd, Nat.reduceXor, Nat.reduceDiv, if_pos, if_neg, aStore, frz, AV.flat, ↓reduceIte, ne_eq, reduceCtorEq, Int.reduceToNat, Nat.reduceEqDiff, Nat.reduceAdd, Nat.reduceSub, Nat.reduceMul, Int.reduceAdd, Int.reduceMul, Int.reduceSub, Int.reduceLT, Int.reduceLE, Int.reduceEq, Int.reduceNe, Nat.reduceLeDiff, Nat.reduceLT, Int.reduceNeg, Nat.reducePow, Nat.reduceMod, ByteArray.size, boo, entL, q3, q4]))
    rw [l1, Bool.true_and] at hZ
    by_cases l2 : e.link = e.path
    · have r2 : decide (e.link = e.path) = true := decide_eq_true l2
      rw [r2, Bool.not_true] at hZ
      subst hZ
      repeat (first | refine wA ?_ | refine wB ?_ | refine wC rfl ?_ | refine wD rfl ?_ | refine wE ?_ | refine wF (by omega) ?_ | ((first | refine wG ?_ | refine wH ?_ | refine wI ?_ | refine wJ ?_ | refine wK ?_ | refine wL ?_); simp (disch := omega) only [wP, wZ, undef, UInt8.reduceToNat, Nat.reduceOr, Nat.reduceAnd, Nat.reduceXor, Nat.reduceDiv, if_pos, if_neg, aStore, frz, AV.flat, ↓reduceIte, ne_eq, reduceCtorEq, Int.reduceToNat, Nat.reduceEqDiff, Nat.reduceAdd, Nat.reduceSub, Nat.reduceMul, Int.reduceAdd, Int.reduceMul, Int.reduceSub, Int.reduceLT, Int.reduceLE, Int.reduceEq, Int.reduceNe, Nat.reduceLeDiff, Nat.reduceLT, Int.reduceNeg, Nat.reducePow, Nat.reduceMod, ByteArray.size, boo, entL, q3, q4, r2]))
    have r2 : decide (e.link = e.path) = false := decide_eq_false l2
    rw [r2, Bool.not_false] at hZ
    subst hZ
    repeat (first | refine wA ?_ | refine wB ?_ | refine wC rfl ?_ | refine wD rfl ?_ | refine wE ?_ | refine wF (by omega) ?_ | ((first | refine wG ?_ | refine wH ?_ | refine wI ?_ | refine wJ ?_ | refine wK ?_ | refine wL ?_); simp (disch := omega) only [wP, wZ, undef, UInt8.reduceToNat, Nat.reduceOr, Nat.reduceAnd, Nat.reduceXor, Nat.reduceDiv, if_pos, if_neg, aStore, frz, AV.flat, ↓reduceIte, ne_eq, reduceCtorEq, Int.reduceToNat, Nat.reduceEqDiff, Nat.reduceAdd, Nat.reduceSub, Nat.reduceMul, Int.reduceAdd, Int.reduceMul, Int.reduceSub, Int.reduceLT, Int.reduceLE, Int.reduceEq, Int.reduceNe, Nat.reduceLeDiff, Nat.reduceLT, Int.reduceNeg, Nat.reducePow, Nat.reduceMod, ByteArray.size, boo, entL, q3, q4, r2]))
  have q4 : decide (e.kind = 4) = false := decide_eq_false k4
  rw [if_neg k4] at hZ
  subst hZ
  repeat (first | refine wA ?_ | refine wB ?_ | refine wC rfl ?_ | refine wD rfl ?_ | refine wE ?_ | refine wF (by omega) ?_ | ((first | refine wG ?_ | refine wH ?_ | refine wI ?_ | refine wJ ?_ | refine wK ?_ | refine wL ?_); simp (disch := omega) only [wP, wZ, undef, UInt8.reduceToNat, Nat.reduceOr, Nat.reduceAnd, Nat.reduceXor, Nat.reduceDiv, if_pos, if_neg, aStore, frz, AV.flat, ↓reduceIte, ne_eq, reduceCtorEq, Int.reduceToNat, Nat.reduceEqDiff, Nat.reduceAdd, Nat.reduceSub, Nat.reduceMul, Int.reduceAdd, Int.reduceMul, Int.reduceSub, Int.reduceLT, Int.reduceLE, Int.reduceEq, Int.reduceNe, Nat.reduceLeDiff, Nat.reduceLT, Int.reduceNeg, Nat.reducePow, Nat.reduceMod, ByteArray.size, boo, entV, entL, q3, q4]))
set_option maxHeartbeats 4000000 in
set_option maxRecDepth 100000 in
theorem Check_c [Tabs Tryd.prog] (hca : CaOk) (e : Ent) (he : entS e) : Con Tryd.prog n_entry_Check [entV e] (int (chk e)) := by
  obtain ⟨s1, s2, s3, s4, s5⟩ := id he
  refine Con.of' mix Tryd.func17 rfl Tryd.ntmps17 e_entry_Check r_entry_Check (by simp) free_entV rfl ?_
  unfold s_entry_Check
  obtain ⟨Z, hZ⟩ : ∃ Z, Z = chk e := ⟨_, rfl⟩
  rw [← hZ]
  rw [chk] at hZ
  repeat (first | refine wA ?_ | refine wB ?_ | refine wC rfl ?_ | refine wD rfl ?_ | refine wE ?_ | refine wF (by omega) ?_ | ((first | refine wG ?_ | refine wH ?_ | refine wI ?_ | refine wJ ?_ | refine wK ?_ | refine wL ?_); simp (disch := omega) only [wP, wZ, undef, UInt8.reduceToNat, Nat.reduceOr, Nat.reduceAnd, Nat.reduceXor, Nat.reduceDiv, if_pos, if_neg, aStore, frz, AV.flat, ↓reduceIte, ne_eq, reduceCtorEq, Int.reduceToNat, Nat.reduceEqDiff, Nat.reduceAdd, Nat.reduceSub, Nat.reduceMul, Int.reduceAdd, Int.reduceMul, Int.reduceSub, Int.reduceLT, Int.reduceLE, Int.reduceEq, Int.reduceNe, Nat.reduceLeDiff, Nat.reduceLT, Int.reduceNeg, Nat.reducePow, Nat.reduceMod, ByteArray.size, entV, entL]))
  refine goC_p _ (.inl ⟨rfl, Path_c e.path s1⟩) ?_
  cases c1 : pathOk e.path
  · rw [c1, if_neg (by decide)] at hZ
    subst hZ
    repeat (first | refine wA ?_ | refine wB ?_ | refine wC rfl ?_ | refine wD rfl ?_ | refine wE ?_ | refine wF (by omega) ?_ | ((first | refine wG ?_ | refine wH ?_ | refine wI ?_ | refine wJ ?_ | refine wK ?_ | refine wL ?_); simp (disch := omega) only [wP, wZ, undef, UInt8.reduceToNat, Nat.reduceOr, Nat.reduceAnd, Nat.reduceXor, Nat.reduceDiv, if_pos, if_neg, aStore, frz, AV.flat, ↓reduceIte, ne_eq, reduceCtorEq, Int.reduceToNat, Nat.reduceEqDiff, Nat.reduceAdd, Nat.reduceSub, Nat.reduceMul, Int.reduceAdd, Int.reduceMul, Int.reduceSub, Int.reduceLT, Int.reduceLE, Int.reduceEq, Int.reduceNe, Nat.reduceLeDiff, Nat.reduceLT, Int.reduceNeg, Nat.reducePow, Nat.reduceMod, ByteArray.size, boo]))
  rw [if_pos c1] at hZ
  by_cases kk : e.kind < 1
  · have dk : decide (e.kind < 1) = true := decide_eq_true kk
    have hn : kindOk e = false := Bool.eq_false_iff.2 (fun h => by simp only [kindOk, Bool.and_eq_true, decide_eq_true_eq] at h; omega)
    rw [hn, if_neg (by decide)] at hZ
    subst hZ
    repeat (first | refine wA ?_ | refine wB ?_ | refine wC rfl ?_ | refine wD rfl ?_ | refine wE ?_ | refine wF (by omega) ?_ | ((first | refine wG ?_ | refine wH ?_ | refine wI ?_ | refine wJ ?_ | refine wK ?_ | refine wL ?_); simp (disch := omega) only [wP, wZ, undef, UInt8.reduceToNat, Nat.reduceOr, Nat.reduceAnd, Nat.reduceXor, Nat.reduceDiv, if_pos, if_neg, aStore, frz, AV.flat, ↓reduceIte, ne_eq, reduceCtorEq, Int.reduceToNat, Nat.reduceEqDiff, Nat.reduceAdd, Nat.reduceSub, Nat.reduceMul, Int.reduceAdd, Int.reduceMul, Int.reduceSub, Int.reduceLT, Int.reduceLE, Int.reduceEq, Int.reduceNe, Nat.reduceLeDiff, Nat.reduceLT, Int.reduceNeg, Nat.reducePow, Nat.reduceMod, ByteArray.size, boo, dk]))
  have dk : decide (e.kind < 1) = false := decide_eq_false kk
  by_cases kl : 4 < e.kind
  · have dl : decide (4 < e.kind) = true := decide_eq_true kl
    have hn : kindOk e = false := Bool.eq_false_iff.2 (fun h => by simp only [kindOk, Bool.and_eq_true, decide_eq_true_eq] at h; omega)
    rw [hn, if_neg (by decide)] at hZ
    subst hZ
    repeat (first | refine wA ?_ | refine wB ?_ | refine wC rfl ?_ | refine wD rfl ?_ | refine wE ?_ | refine wF (by omega) ?_ | ((first | refine wG ?_ | refine wH ?_ | refine wI ?_ | refine wJ ?_ | refine wK ?_ | refine wL ?_); simp (disch := omega) only [wP, wZ, undef, UInt8.reduceToNat, Nat.reduceOr, Nat.reduceAnd, Nat.reduceXor, Nat.reduceDiv, if_pos, if_neg, aStore, frz, AV.flat, ↓reduceIte, ne_eq, reduceCtorEq, Int.reduceToNat, Nat.reduceEqDiff, Nat.reduceAdd, Nat.reduceSub, Nat.reduceMul, Int.reduceAdd, Int.reduceMul, Int.reduceSub, Int.reduceLT, Int.reduceLE, Int.reduceEq, Int.reduceNe, Nat.reduceLeDiff, Nat.reduceLT, Int.reduceNeg, Nat.reducePow, Nat.reduceMod, ByteArray.size, boo, dk, dl]))
  have dl : decide (4 < e.kind) = false := decide_eq_false kl
  have hnk : kindOk e = true := by simp only [kindOk, Bool.and_eq_true, decide_eq_true_eq]; omega
  rw [if_pos hnk] at hZ
  repeat (first | refine wA ?_ | refine wB ?_ | refine wC rfl ?_ | refine wD rfl ?_ | refine wE ?_ | refine wF (by omega) ?_ | ((first | refine wG ?_ | refine wH ?_ | refine wI ?_ | refine wJ ?_ | refine wK ?_ | refine wL ?_); simp (disch := omega) only [wP, wZ, undef, UInt8.reduceToNat, Nat.reduceOr, Nat.reduceAnd, Nat.reduceXor, Nat.reduceDiv, if_pos, if_neg, aStore, frz, AV.flat, ↓reduceIte, ne_eq, reduceCtorEq, Int.reduceToNat, Nat.reduceEqDiff, Nat.reduceAdd, Nat.reduceSub, Nat.reduceMul, Int.reduceAdd, Int.reduceMul, Int.reduceSub, Int.reduceLT, Int.reduceLE, Int.reduceEq, Int.reduceNe, Nat.reduceLeDiff, Nat.reduceLT, Int.reduceNeg, Nat.reducePow, Nat.reduceMod, ByteArray.size, boo, dk, dl, entL]))
  refine goC_p _ (.inl ⟨free_entV, numbersFit_c e⟩) ?_
  cases c2 : numFit e
  · rw [c2, if_neg (by decide)] at hZ
    subst hZ
    repeat (first | refine wA ?_ | refine wB ?_ | refine wC rfl ?_ | refine wD rfl ?_ | refine wE ?_ | refine wF (by omega) ?_ | ((first | refine wG ?_ | refine wH ?_ | refine wI ?_ | refine wJ ?_ | refine wK ?_ | refine wL ?_); simp (disch := omega) only [wP, wZ, undef, UInt8.reduceToNat, Nat.reduceOr, Nat.reduceAnd, Nat.reduceXor, Nat.reduceDiv, if_pos, if_neg, aStore, frz, AV.flat, ↓reduceIte, ne_eq, reduceCtorEq, Int.reduceToNat, Nat.reduceEqDiff, Nat.reduceAdd, Nat.reduceSub, Nat.reduceMul, Int.reduceAdd, Int.reduceMul, Int.reduceSub, Int.reduceLT, Int.reduceLE, Int.reduceEq, Int.reduceNe, Nat.reduceLeDiff, Nat.reduceLT, Int.reduceNeg, Nat.reducePow, Nat.reduceMod, ByteArray.size, boo]))
  rw [if_pos c2] at hZ
  repeat (first | refine wA ?_ | refine wB ?_ | refine wC rfl ?_ | refine wD rfl ?_ | refine wE ?_ | refine wF (by omega) ?_ | ((first | refine wG ?_ | refine wH ?_ | refine wI ?_ | refine wJ ?_ | refine wK ?_ | refine wL ?_); simp (disch := omega) only [wP, wZ, undef, UInt8.reduceToNat, Nat.reduceOr, Nat.reduceAnd, Nat.reduceXor, Nat.reduceDiv, if_pos, if_neg, aStore, frz, AV.flat, ↓reduceIte, ne_eq, reduceCtorEq, Int.reduceToNat, Nat.reduceEqDiff, Nat.reduceAdd, Nat.reduceSub, Nat.reduceMul, Int.reduceAdd, Int.reduceMul, Int.reduceSub, Int.reduceLT, Int.reduceLE, Int.reduceEq, Int.reduceNe, Nat.reduceLeDiff, Nat.reduceLT, Int.reduceNeg, Nat.reducePow, Nat.reduceMod, ByteArray.size, boo, entL]))
  refine goC_p _ (.inl ⟨rfl, isOwner_c hca e.owner s2⟩) ?_
  cases c3 : ownOk e.owner
  · rw [c3, Bool.false_and, if_neg (by decide)] at hZ
    subst hZ
    repeat (first | refine wA ?_ | refine wB ?_ | refine wC rfl ?_ | refine wD rfl ?_ | refine wE ?_ | refine wF (by omega) ?_ | ((first | refine wG ?_ | refine wH ?_ | refine wI ?_ | refine wJ ?_ | refine wK ?_ | refine wL ?_); simp (disch := omega) only [wP, wZ, undef, UInt8.reduceToNat, Nat.reduceOr, Nat.reduceAnd, Nat.reduceXor, Nat.reduceDiv, if_pos, if_neg, aStore, frz, AV.flat, ↓reduceIte, ne_eq, reduceCtorEq, Int.reduceToNat, Nat.reduceEqDiff, Nat.reduceAdd, Nat.reduceSub, Nat.reduceMul, Int.reduceAdd, Int.reduceMul, Int.reduceSub, Int.reduceLT, Int.reduceLE, Int.reduceEq, Int.reduceNe, Nat.reduceLeDiff, Nat.reduceLT, Int.reduceNeg, Nat.reducePow, Nat.reduceMod, ByteArray.size, boo]))
  rw [c3, Bool.true_and] at hZ
  repeat (first | refine wA ?_ | refine wB ?_ | refine wC rfl ?_ | refine wD rfl ?_ | refine wE ?_ | refine wF (by omega) ?_ | ((first | refine wG ?_ | refine wH ?_ | refine wI ?_ | refine wJ ?_ | refine wK ?_ | refine wL ?_); simp (disch := omega) only [wP, wZ, undef, UInt8.reduceToNat, Nat.reduceOr, Nat.reduceAnd, Nat.reduceXor, Nat.reduceDiv, if_pos, if_neg, aStore, frz, AV.flat, ↓reduceIte, ne_eq, reduceCtorEq, Int.reduceToNat, Nat.reduceEqDiff, Nat.reduceAdd, Nat.reduceSub, Nat.reduceMul, Int.reduceAdd, Int.reduceMul, Int.reduceSub, Int.reduceLT, Int.reduceLE, Int.reduceEq, Int.reduceNe, Nat.reduceLeDiff, Nat.reduceLT, Int.reduceNeg, Nat.reducePow, Nat.reduceMod, ByteArray.size, boo, entL]))
  refine goC_p _ (.inl ⟨rfl, isOwner_c hca e.group s3⟩) ?_
  cases c4 : ownOk e.group
  · rw [c4, if_neg (by decide)] at hZ
    subst hZ
    repeat (first | refine wA ?_ | refine wB ?_ | refine wC rfl ?_ | refine wD rfl ?_ | refine wE ?_ | refine wF (by omega) ?_ | ((first | refine wG ?_ | refine wH ?_ | refine wI ?_ | refine wJ ?_ | refine wK ?_ | refine wL ?_); simp (disch := omega) only [wP, wZ, undef, UInt8.reduceToNat, Nat.reduceOr, Nat.reduceAnd, Nat.reduceXor, Nat.reduceDiv, if_pos, if_neg, aStore, frz, AV.flat, ↓reduceIte, ne_eq, reduceCtorEq, Int.reduceToNat, Nat.reduceEqDiff, Nat.reduceAdd, Nat.reduceSub, Nat.reduceMul, Int.reduceAdd, Int.reduceMul, Int.reduceSub, Int.reduceLT, Int.reduceLE, Int.reduceEq, Int.reduceNe, Nat.reduceLeDiff, Nat.reduceLT, Int.reduceNeg, Nat.reducePow, Nat.reduceMod, ByteArray.size, boo]))
  rw [if_pos c4] at hZ
  repeat (first | refine wA ?_ | refine wB ?_ | refine wC rfl ?_ | refine wD rfl ?_ | refine wE ?_ | refine wF (by omega) ?_ | ((first | refine wG ?_ | refine wH ?_ | refine wI ?_ | refine wJ ?_ | refine wK ?_ | refine wL ?_); simp (disch := omega) only [wP, wZ, undef, UInt8.reduceToNat, Nat.reduceOr, Nat.reduceAnd, Nat.reduceXor, Nat.reduceDiv, if_pos, if_neg, aStore, frz, AV.flat, ↓reduceIte, ne_eq, reduceCtorEq, Int.reduceToNat, Nat.reduceEqDiff, Nat.reduceAdd, Nat.reduceSub, Nat.reduceMul, Int.reduceAdd, Int.reduceMul, Int.reduceSub, Int.reduceLT, Int.reduceLE, Int.reduceEq, Int.reduceNe, Nat.reduceLeDiff, Nat.reduceLT, Int.reduceNeg, Nat.reducePow, Nat.reduceMod, ByteArray.size, boo, entL]))
  refine goC_p _ (.inl ⟨free_entV, pointsRight_c hca e he⟩) ?_
  cases c5 : linkOk e
  · rw [c5, if_neg (by decide)] at hZ
    subst hZ
    repeat (first | refine wA ?_ | refine wB ?_ | refine wC rfl ?_ | refine wD rfl ?_ | refine wE ?_ | refine wF (by omega) ?_ | ((first | refine wG ?_ | refine wH ?_ | refine wI ?_ | refine wJ ?_ | refine wK ?_ | refine wL ?_); simp (disch := omega) only [wP, wZ, undef, UInt8.reduceToNat, Nat.reduceOr, Nat.reduceAnd, Nat.reduceXor, Nat.reduceDiv, if_pos, if_neg, aStore, frz, AV.flat, ↓reduceIte, ne_eq, reduceCtorEq, Int.reduceToNat, Nat.reduceEqDiff, Nat.reduceAdd, Nat.reduceSub, Nat.reduceMul, Int.reduceAdd, Int.reduceMul, Int.reduceSub, Int.reduceLT, Int.reduceLE, Int.reduceEq, Int.reduceNe, Nat.reduceLeDiff, Nat.reduceLT, Int.reduceNeg, Nat.reducePow, Nat.reduceMod, ByteArray.size, boo]))
  rw [if_pos c5] at hZ
  by_cases k1 : e.kind = 1
  case neg =>
    have q1 : decide (e.kind = 1) = false := decide_eq_false k1
    by_cases m0 : e.data.length = 0
    case neg =>
      have v0 : decide ((0 : Int) < (e.data.length : Int)) = true := decide_eq_true (by omega)
      have hn : argOk e = false := by rw [argOk, q1, decide_eq_false m0]; simp
      rw [hn, if_neg (by decide)] at hZ
      subst hZ
      repeat (first | refine wA ?_ | refine wB ?_ | refine wC rfl ?_ | refine wD rfl ?_ | refine wE ?_ | refine wF (by omega) ?_ | ((first | refine wG ?_ | refine wH ?_ | refine wI ?_ | refine wJ ?_ | refine wK ?_ | refine wL ?_); simp (disch := omega) only [wP, wZ, undef, UInt8.reduceToNat, Nat.reduceOr, Nat.reduceAnd, Nat.reduceXor, Nat.reduceDiv, if_pos, if_neg, aStore, frz, AV.flat, ↓reduceIte, ne_eq, reduceCtorEq, Int.reduceToNat, Nat.reduceEqDiff, Nat.reduceAdd, Nat.reduceSub, Nat.reduceMul, Int.reduceAdd, Int.reduceMul, Int.reduceSub, Int.reduceLT, Int.reduceLE, Int.reduceEq, Int.reduceNe, Nat.reduceLeDiff, Nat.reduceLT, Int.reduceNeg, Nat.reducePow, Nat.reduceMod, ByteArray.size, boo, entL, q1, v0, List.length_map]))
    have v0 : decide ((0 : Int) < (e.data.length : Int)) = false := decide_eq_false (by omega)
    have v1 : decide ((1048576 : Int) < (e.data.length : Int)) = false := decide_eq_false (by omega)
    by_cases k3 : e.kind = 3
    · have q3 : decide (e.kind = 3) = true := decide_eq_true k3
      have hn : argOk e = true := by rw [argOk, decide_eq_true m0, decide_eq_true (by omega : 3 ≤ e.kind)]; simp
      rw [if_pos hn, if_pos (by omega)] at hZ
      subst hZ
      repeat (first | refine wA ?_ | refine wB ?_ | refine wC rfl ?_ | refine wD rfl ?_ | refine wE ?_ | refine wF (by omega) ?_ | ((first | refine wG ?_ | refine wH ?_ | refine wI ?_ | refine wJ ?_ | refine wK ?_ | refine wL ?_); simp (disch := omega) only [wP, wZ, undef, UInt8.reduceToNat, Nat.reduceOr, Nat.reduceAnd, Nat.reduceXor, Nat.reduceDiv, if_pos, if_neg, aStore, frz, AV.flat, ↓reduceIte, ne_eq, reduceCtorEq, Int.reduceToNat, Nat.reduceEqDiff, Nat.reduceAdd, Nat.reduceSub, Nat.reduceMul, Int.reduceAdd, Int.reduceMul, Int.reduceSub, Int.reduceLT, Int.reduceLE, Int.reduceEq, Int.reduceNe, Nat.reduceLeDiff, Nat.reduceLT, Int.reduceNeg, Nat.reducePow, Nat.reduceMod, ByteArray.size, boo, entL, q1, q3, v0, v1, List.length_map]))
    have q3 : decide (e.kind = 3) = false := decide_eq_false k3
    by_cases k4 : e.kind = 4
    · have q4 : decide (e.kind = 4) = true := decide_eq_true k4
      have hn : argOk e = true := by rw [argOk, decide_eq_true m0, decide_eq_true (by omega : 3 ≤ e.kind)]; simp
      rw [if_pos hn, if_pos (by omega)] at hZ
      subst hZ
      repeat (first | refine wA ?_ | refine wB ?_ | refine wC rfl ?_ | refine wD rfl ?_ | refine wE ?_ | refine wF (by omega) ?_ | ((first | refine wG ?_ | refine wH ?_ | refine wI ?_ | refine wJ ?_ | refine wK ?_ | refine wL ?_); simp (disch := omega) only [wP, wZ, undef, UInt8.reduceToNat, Nat.reduceOr, Nat.reduceAnd, Nat.reduceXor, Nat.reduceDiv, if_pos, if_neg, aStore, frz, AV.flat, ↓reduceIte, ne_eq, reduceCtorEq, Int.reduceToNat, Nat.reduceEqDiff, Nat.reduceAdd, Nat.reduceSub, Nat.reduceMul, Int.reduceAdd, Int.reduceMul, Int.reduceSub, Int.reduceLT, Int.reduceLE, Int.reduceEq, Int.reduceNe, Nat.reduceLeDiff, Nat.reduceLT, Int.reduceNeg, Nat.reducePow, Nat.reduceMod, ByteArray.size, boo, entL, q1, q3, q4, v0, v1, List.length_map]))
    have q4 : decide (e.kind = 4) = false := decide_eq_false k4
    by_cases l0 : e.link = []
    · have r0 : decide (e.link = []) = true := decide_eq_true l0
      have hn : argOk e = true := by rw [argOk, decide_eq_true m0, r0]; simp
      rw [if_pos hn, if_pos (by omega)] at hZ
      subst hZ
      repeat (first | refine wA ?_ | refine wB ?_ | refine wC rfl ?_ | refine wD rfl ?_ | refine wE ?_ | refine wF (by omega) ?_ | ((first | refine wG ?_ | refine wH ?_ | refine wI ?_ | refine wJ ?_ | refine wK ?_ | refine wL ?_); simp (disch := omega) only [wP, wZ, undef, UInt8.reduceToNat, Nat.reduceOr, Nat.reduceAnd, Nat.reduceXor, Nat.reduceDiv, if_pos, if_neg, aStore, frz, AV.flat, ↓reduceIte, ne_eq, reduceCtorEq, Int.reduceToNat, Nat.reduceEqDiff, Nat.reduceAdd, Nat.reduceSub, Nat.reduceMul, Int.reduceAdd, Int.reduceMul, Int.reduceSub, Int.reduceLT, Int.reduceLE, Int.reduceEq, Int.reduceNe, Nat.reduceLeDiff, Nat.reduceLT, Int.reduceNeg, Nat.reducePow, Nat.reduceMod, ByteArray.size, boo, entL, q1, q3, q4, r0, v0, v1, List.length_map]))
    · have r0 : decide (e.link = []) = false := decide_eq_false l0
      have hn : argOk e = false := by rw [argOk, r0, decide_eq_false (by omega : ¬ 3 ≤ e.kind)]; rfl
      rw [hn, if_neg (by decide)] at hZ
      subst hZ
      repeat (first | refine wA ?_ | refine wB ?_ | refine wC rfl ?_ | refine wD rfl ?_ | refine wE ?_ | refine wF (by omega) ?_ | ((first | refine wG ?_ | refine wH ?_ | refine wI ?_ | refine wJ ?_ | refine wK ?_ | refine wL ?_); simp (disch := omega) only [wP, wZ, undef, UInt8.reduceToNat, Nat.reduceOr, Nat.reduceAnd, Nat.reduceXor, Nat.reduceDiv, if_pos, if_neg, aStore, frz, AV.flat, ↓reduceIte, ne_eq, reduceCtorEq, Int.reduceToNat, Nat.reduceEqDiff, Nat.reduceAdd, Nat.reduceSub, Nat.reduceMul, Int.reduceAdd, Int.reduceMul, Int.reduceSub, Int.reduceLT, Int.reduceLE, Int.reduceEq, Int.reduceNe, Nat.reduceLeDiff, Nat.reduceLT, Int.reduceNeg, Nat.reducePow, Nat.reduceMod, ByteArray.size, boo, entL, q1, q3, q4, r0, v0, v1, List.length_map]))
  have q1 : decide (e.kind = 1) = true := decide_eq_true k1
  have q3 : decide (e.kind = 3) = false := decide_eq_false (by omega)
  have q4 : decide (e.kind = 4) = false := decide_eq_false (by omega)
  by_cases l0 : e.link = []
  case neg =>
    have r0 : decide (e.link = []) = false := decide_eq_false l0
    have hn : argOk e = false := by rw [argOk, r0, decide_eq_false (by omega : ¬ 3 ≤ e.kind)]; rfl
    rw [hn, if_neg (by decide)] at hZ
    subst hZ
    repeat (first | refine wA ?_ | refine wB ?_ | refine wC rfl ?_ | refine wD rfl ?_ | refine wE ?_ | refine wF (by omega) ?_ | ((first | refine wG ?_ | refine wH ?_ | refine wI ?_ | refine wJ ?_ | refine wK ?_ | refine wL ?_); simp (disch := omega) only [wP, wZ, undef, UInt8.reduceToNat, Nat.reduceOr, Nat.reduceAnd, Nat.reduceXor, Nat.reduceDiv, if_pos, if_neg, aStore, frz, AV.flat, ↓reduceIte, ne_eq, reduceCtorEq, Int.reduceToNat, Nat.reduceEqDiff, Nat.reduceAdd, Nat.reduceSub, Nat.reduceMul, Int.reduceAdd, Int.reduceMul, Int.reduceSub, Int.reduceLT, Int.reduceLE, Int.reduceEq, Int.reduceNe, Nat.reduceLeDiff, Nat.reduceLT, Int.reduceNeg, Nat.reducePow, Nat.reduceMod, ByteArray.size, boo, entL, q1, q3, q4, r0, List.length_map]))
  have r0 : decide (e.link = []) = true := decide_eq_true l0
  have hn : argOk e = true := by rw [argOk, r0, q1]; simp
  rw [if_pos hn] at hZ
  by_cases m1 : e.data.length ≤ 1048576
  · have v1 : decide ((1048576 : Int) < (e.data.length : Int)) = false := decide_eq_false (by omega)
    rw [if_pos m1] at hZ
    subst hZ
    repeat (first | refine wA ?_ | refine wB ?_ | refine wC rfl ?_ | refine wD rfl ?_ | refine wE ?_ | refine wF (by omega) ?_ | ((first | refine wG ?_ | refine wH ?_ | refine wI ?_ | refine wJ ?_ | refine wK ?_ | refine wL ?_); simp (disch := omega) only [wP, wZ, undef, UInt8.reduceToNat, Nat.reduceOr, Nat.reduceAnd, Nat.reduceXor, Nat.reduceDiv, if_pos, if_neg, aStore, frz, AV.flat, ↓reduceIte, ne_eq, reduceCtorEq, Int.reduceToNat, Nat.reduceEqDiff, Nat.reduceAdd, Nat.reduceSub, Nat.reduceMul, Int.reduceAdd, Int.reduceMul, Int.reduceSub, Int.reduceLT, Int.reduceLE, Int.reduceEq, Int.reduceNe, Nat.reduceLeDiff, Nat.reduceLT, Int.reduceNeg, Nat.reducePow, Nat.reduceMod, ByteArray.size, boo, entL, q1, q3, q4, r0, v1, List.length_map]))
  · have v1 : decide ((1048576 : Int) < (e.data.length : Int)) = true := decide_eq_true (by omega)
    rw [if_neg m1] at hZ
    subst hZ
    repeat (first | refine wA ?_ | refine wB ?_ | refine wC rfl ?_ | refine wD rfl ?_ | refine wE ?_ | refine wF (by omega) ?_ | ((first | refine wG ?_ | refine wH ?_ | refine wI ?_ | refine wJ ?_ | refine wK ?_ | refine wL ?_); simp (disch := omega) only [wP, wZ, undef, UInt8.reduceToNat, Nat.reduceOr, Nat.reduceAnd, Nat.reduceXor, Nat.reduceDiv, if_pos, if_neg, aStore, frz, AV.flat, ↓reduceIte, ne_eq, reduceCtorEq, Int.reduceToNat, Nat.reduceEqDiff, Nat.reduceAdd, Nat.reduceSub, Nat.reduceMul, Int.reduceAdd, Int.reduceMul, Int.reduceSub, Int.reduceLT, Int.reduceLE, Int.reduceEq, Int.reduceNe, Nat.reduceLeDiff, Nat.reduceLT, Int.reduceNeg, Nat.reducePow, Nat.reduceMod, ByteArray.size, boo, entL, q1, q3, q4, r0, v1, List.length_map]))
end Go.Proofs.YtbmmdkbinlnogaaDoor.Aw
namespace Go.Proofs
open Go.Shelf
def Tryd.sortEnt_ren : Go.Shelf.Ren := ⟨fun | 6 => 37 | 15 => 57 | 14 => 56 | 28 => 75 | 29 => 76 | 20 => 67 | 21 => 68 | 22 => 69 | 23 => 70 | 24 => 71 | 25 => 72 | 26 => 73 | 27 => 74 | 46 => 84 | 47 => 85 | 48 => 86 | 49 => 87 | 50 => 88 | 57 => 93 | n => n, fun | 22 => 29 | 24 => 28 | 25 => 61 | 3 => 3 | 39 => 77 | 0 => 0 | 53 => 93 | 55 => 95 | 4 => 4 | 46 => 87 | 45 => 86 | 50 => 80 | 5 => 5 | 9 => 9 | 66 => 102 | 70 => 106 | 76 => 115 | 77 => 116 | n => n, fun | n => n⟩
theorem Tryd.sortEnt : Go.Proofs.SlLaysF0.n6 Tryd.prog Tryd.sortEnt_ren := {
  mixed := by kernel_rfl
  f6 := ⟨Tryd.f37.name, by decide, Tryd.func37.trans (congrArg some (by kernel_rfl))⟩
  f14 := ⟨Tryd.f56.name, by decide, Tryd.func56.trans (congrArg some (by kernel_rfl))⟩
  f15 := Tryd.func57.trans (congrArg some (by kernel_rfl))
  f20 := ⟨Tryd.f67.name, by decide, Tryd.func67.trans (congrArg some (by kernel_rfl))⟩
  f21 := ⟨Tryd.f68.name, by decide, Tryd.func68.trans (congrArg some (by kernel_rfl))⟩
  f22 := ⟨Tryd.f69.name, by decide, Tryd.func69.trans (congrArg some (by kernel_rfl))⟩
  f23 := ⟨Tryd.f70.name, by decide, Tryd.func70.trans (congrArg some (by kernel_rfl))⟩
  f24 := ⟨Tryd.f71.name, by decide, Tryd.func71.trans (congrArg some (by kernel_rfl))⟩
  f25 := ⟨Tryd.f72.name, by decide, Tryd.func72.trans (congrArg some (by kernel_rfl))⟩
  f26 := ⟨Tryd.f73.name, by decide, Tryd.func73.trans (congrArg some (by kernel_rfl))⟩
  f27 := ⟨Tryd.f74.name, by decide, Tryd.func74.trans (congrArg some (by kernel_rfl))⟩
  f28 := Tryd.func75.trans (congrArg some (by kernel_rfl))
  f29 := Tryd.func76.trans (congrArg some (by kernel_rfl))
  f46 := ⟨Tryd.f84.name, by decide, Tryd.func84.trans (congrArg some (by kernel_rfl))⟩
  f47 := Tryd.func85.trans (congrArg some (by kernel_rfl))
  f48 := Tryd.func86.trans (congrArg some (by kernel_rfl))
  f49 := ⟨Tryd.f87.name, by decide, Tryd.func87.trans (congrArg some (by kernel_rfl))⟩
  f50 := ⟨Tryd.f88.name, by decide, Tryd.func88.trans (congrArg some (by kernel_rfl))⟩
  f57 := ⟨Tryd.f93.name, by decide, Tryd.func93.trans (congrArg some (by kernel_rfl))⟩
  t0 := Tryd.underlying0
  a0 := Tryd.isAgg0
  z0 := Tryd.sizeOf0
  v0 := Tryd.zeroValue0
  t3 := Tryd.underlying3
  a3 := Tryd.isAgg3
  z3 := Tryd.sizeOf3
  v3 := Tryd.zeroValue3
  t4 := Tryd.underlying4
  a4 := Tryd.isAgg4
  z4 := Tryd.sizeOf4
  v4 := Tryd.zeroValue4
  t5 := Tryd.underlying5
  a5 := Tryd.isAgg5
  z5 := Tryd.sizeOf5
  v5 := Tryd.zeroValue5
  t9 := Tryd.underlying9
  a9 := Tryd.isAgg9
  z9 := Tryd.sizeOf9
  v9 := Tryd.zeroValue9
  t22 := Tryd.underlying29
  a22 := Tryd.isAgg29
  z22 := Tryd.sizeOf29
  v22 := Tryd.zeroValue29
  t25 := Tryd.underlying61
  a25 := Tryd.isAgg61
  z25 := Tryd.sizeOf61
  v25 := Tryd.zeroValue61
  t39 := Tryd.underlying77
  a39 := Tryd.isAgg77
  z39 := Tryd.sizeOf77
  v39 := Tryd.zeroValue77
  t45 := Tryd.underlying86
  a45 := Tryd.isAgg86
  z45 := Tryd.sizeOf86
  v45 := Tryd.zeroValue86
  t46 := Tryd.underlying87
  a46 := Tryd.isAgg87
  z46 := Tryd.sizeOf87
  v46 := Tryd.zeroValue87
  t50 := Tryd.underlying80
  a50 := Tryd.isAgg80
  z50 := Tryd.sizeOf80
  v50 := Tryd.zeroValue80
  t53 := Tryd.underlying93
  a53 := Tryd.isAgg93
  z53 := Tryd.sizeOf93
  v53 := Tryd.zeroValue93
  t55 := Tryd.underlying95
  a55 := Tryd.isAgg95
  z55 := Tryd.sizeOf95
  v55 := Tryd.zeroValue95
  t66 := Tryd.underlying102
  a66 := Tryd.isAgg102
  z66 := Tryd.sizeOf102
  v66 := Tryd.zeroValue102
  t70 := Tryd.underlying106
  a70 := Tryd.isAgg106
  z70 := Tryd.sizeOf106
  v70 := Tryd.zeroValue106
  t76 := Tryd.underlying115
  a76 := Tryd.isAgg115
  z76 := Tryd.sizeOf115
  v76 := Tryd.zeroValue115
  t77 := Tryd.underlying116
  a77 := Tryd.isAgg116
  z77 := Tryd.sizeOf116
  v77 := Tryd.zeroValue116 }
end Go.Proofs
namespace Go.Proofs.YtbmmdkbinlnogaaDoor.Aw
open Go Go.Proofs Go.Shelf Go.RowKit Go.Sort
set_option linter.unusedSimpArgs false
set_option linter.unusedVariables false
structure EnR where
  p : ByteArray
  r : List Value
  len : r.length = 9
  one : ∀ v ∈ r, v.oneCell' = true
instance : Inhabited EnR := ⟨⟨⟨#[]⟩, List.replicate 9 (.bool false), by simp, by simp [Value.oneCell']⟩⟩
def encR (x : EnR) : List Value := .string x.p :: x.r
def cfR (x y : EnR) : Int := Lib.compareBytes x.p.data.toList y.p.data.toList
theorem encR_len (x : EnR) : (encR x).length = 10 := by simp [encR, x.len]
theorem encR_one (x : EnR) : ∀ v ∈ encR x, v.oneCell' = true := fun v hv => by
  rcases List.mem_cons.1 hv with rfl | h
  · rfl
  · exact x.one v h
theorem ltR (x y : EnR) : ltOf cfR x y = ltB x.p.data.toList y.p.data.toList := cmp_ltB _ _
theorem swoR : SWO (ltOf cfR) where
  irrefl x := by rw [ltR]; exact ltB_irrefl _
  trans x y z h1 h2 := by rw [ltR] at *; exact ltB_trans h1 h2
  ntrans x y z h1 h2 := by
    rw [ltR] at *
    cases h : ltB x.p.data.toList z.p.data.toList
    · rfl
    · exfalso
      cases h3 : ltB z.p.data.toList y.p.data.toList
      · have := ltB_tri h2 h3
        rw [this, h] at h1
        cases h1
      · have := ltB_trans h h3
        rw [this] at h1
        cases h1
set_option maxHeartbeats 1000000 in
theorem closureR (x y : EnR) (W : World) : Calls Tryd.prog 38 #[.agg (encR x).toArray, .agg (encR y).toArray] W fun e w' => e = .returned (.int .i64 (cfR x y)) ∧ ∃ q os', w' = grow (W.drewN q) os' := by
  obtain ⟨p, r, hl, h1⟩ := x
  obtain ⟨p', r', hl', h1'⟩ := y
  obtain ⟨a1, a2, a3, a4, a5, a6, a7, a8, a9, rfl⟩ : ∃ a1 a2 a3 a4 a5 a6 a7 a8 a9, r = [a1, a2, a3, a4, a5, a6, a7, a8, a9] := by
    match r, hl with
    | [a1, a2, a3, a4, a5, a6, a7, a8, a9], _ => exact ⟨_, _, _, _, _, _, _, _, _, rfl⟩
  obtain ⟨b1, b2, b3, b4, b5, b6, b7, b8, b9, rfl⟩ : ∃ a1 a2 a3 a4 a5 a6 a7 a8 a9, r' = [a1, a2, a3, a4, a5, a6, a7, a8, a9] := by
    match r', hl' with
    | [a1, a2, a3, a4, a5, a6, a7, a8, a9], _ => exact ⟨_, _, _, _, _, _, _, _, _, rfl⟩
  simp only [encR, cfR]
  have hcon := fun W' => Tryd.strings_Compare p p' W'
  change ∀ W', Calls Tryd.prog 39 _ _ _ at hcon
  generalize Lib.compareBytes p.data.toList p'.data.toList = R at hcon ⊢
  clear h1 h1'
  go_enter Tryd.func38, Tryd.ntmps38
  go_wp2_with (go_at_call 39; refine (hcon _).mono ?_; rintro e w' ⟨rfl, rfl⟩)
  go_ret
  exact ⟨rfl, 0, _, by rw [alloc_eq_grow, alloc_eq_grow, grow_grow]; rfl⟩
theorem cmpLaysR (blk off size : Nat) (w : World) : CmpLays Tryd.prog 38 #[] encR 10 cfR blk off size w := fun _ _ _ _ x y => closureR x y _
def enC (l : List Ent) : List AV := l.flatMap entL
def All2 {α β : Type} (R : α → β → Prop) : List α → List β → Prop
  | [], [] => True
  | a :: l, b :: m => R a b ∧ All2 R l m
  | _, _ => False
theorem All2.length {α β : Type} {R : α → β → Prop} : ∀ {l : List α} {m : List β}, All2 R l m → l.length = m.length
  | [], [], _ => rfl
  | _ :: l, _ :: m, h => by simp [All2.length h.2]
  | [], _ :: _, h => h.elim
  | _ :: _, [], h => h.elim
theorem All2.perm {α β : Type} {R : α → β → Prop} {m m' : List β} (hp : m.Perm m') : ∀ {l : List α}, All2 R l m → ∃ l', l.Perm l' ∧ All2 R l' m' := by
  induction hp with
  | nil => intro l h; exact ⟨l, List.Perm.refl _, h⟩
  | cons x _ ih =>
    intro l h
    match l, h with
    | a :: l, h =>
      obtain ⟨l', h1, h2⟩ := ih h.2
      exact ⟨a :: l', h1.cons a, h.1, h2⟩
  | swap x y _ =>
    intro l h
    match l, h with
    | a :: b :: l, h => exact ⟨b :: a :: l, List.Perm.swap b a l, h.2.1, h.1, h.2.2⟩
  | trans _ _ ih1 ih2 =>
    intro l h
    obtain ⟨l1, h1, h2⟩ := ih1 h
    obtain ⟨l2, h3, h4⟩ := ih2 h2
    exact ⟨l2, h1.trans h3, h4⟩
theorem All2.get {α β : Type} {R : α → β → Prop} : ∀ {l : List α} {m : List β}, All2 R l m → ∀ (i : Nat) (h1 : i < l.length) (h2 : i < m.length), R l[i] m[i]
  | _ :: _, _ :: _, h, 0, _, _ => h.1
  | _ :: l, _ :: m, h, i + 1, h1, h2 => by simpa using All2.get h.2 i (by simpa using h1) (by simpa using h2)
  | [], _, _, _, h1, _ => by simp at h1
  | _ :: _, [], h, _, _, _ => h.elim
def RE (G : Gh) (w : World) (e : Ent) (x : EnR) : Prop := x.p = ⟨e.path.toArray⟩ ∧ RdL G w (entL e) (encR x)
theorem RdL.split {G : Gh} {w : World} : ∀ {xs ys : List AV} {vs : List Value}, RdL G w (xs ++ ys) vs → ∃ a b, vs = a ++ b ∧ RdL G w xs a ∧ RdL G w ys b
  | [], _, vs, h => ⟨[], vs, rfl, by simp [RdL], h⟩
  | x :: xs, ys, vs, h => by
    simp only [List.cons_append, RdL] at h
    obtain ⟨v, r, rfl, h1, h2⟩ := h
    obtain ⟨a, b, rfl, h3, h4⟩ := RdL.split h2
    exact ⟨v :: a, b, rfl, by simp only [RdL]; exact ⟨v, a, rfl, h1, h3⟩, h4⟩
theorem RdL.app {G : Gh} {w : World} : ∀ {xs ys : List AV} {a b : List Value}, RdL G w xs a → RdL G w ys b → RdL G w (xs ++ ys) (a ++ b)
  | [], _, a, b, h, h' => by
    simp only [RdL] at h
    subst h
    simpa using h'
  | x :: xs, ys, a, b, h, h' => by
    simp only [RdL] at h
    obtain ⟨v, r, rfl, h1, h2⟩ := h
    simp only [List.cons_append, RdL]
    exact ⟨v, r ++ b, rfl, h1, RdL.app h2 h'⟩
theorem rows_split {G : Gh} {w : World} : ∀ {l : List Ent} {vs : List Value}, RdL G w (enC l) vs → (∀ v ∈ vs, v.oneCell' = true) → ∃ ds : List EnR, vs = ds.flatMap encR ∧ All2 (RE G w) l ds
  | [], vs, h, _ => by
    simp only [enC, List.flatMap_nil, RdL] at h
    exact ⟨[], h, trivial⟩
  | e :: l, vs, h, h1 => by
    rw [show enC (e :: l) = entL e ++ enC l by simp [enC]] at h
    obtain ⟨a, b, rfl, h2, h3⟩ := RdL.split h
    obtain ⟨ds, rfl, h4⟩ := rows_split h3 (fun v hv => h1 v (by simp only [List.mem_append]; exact .inr hv))
    have hlen := h2.length
    have h2' := h2
    simp only [entL, RdL] at h2
    obtain ⟨v, r, rfl, h5, -⟩ := h2
    simp only [str, Rd] at h5
    subst h5
    refine ⟨⟨⟨e.path.toArray⟩, r, by simpa [entL] using hlen, fun v hv => h1 v (by simp [hv])⟩ :: ds, by simp [encR], ⟨rfl, h2'⟩, h4⟩
theorem rows_join {G : Gh} {w : World} : ∀ {l : List Ent} {ds : List EnR}, All2 (RE G w) l ds → RdL G w (enC l) (ds.flatMap encR)
  | [], [], _ => by simp [enC, RdL]
  | e :: l, x :: ds, h => by
    rw [show enC (e :: l) = entL e ++ enC l by simp [enC], List.flatMap_cons]
    exact RdL.app h.1.2 (rows_join h.2)
  | [], _ :: _, h => h.elim
  | _ :: _, [], h => h.elim
theorem flatR_len (ds : List EnR) : (ds.flatMap encR).length = ds.length * 10 := by
  induction ds with
  | nil => rfl
  | cons x ds ih => rw [List.flatMap_cons, List.length_append, encR_len, ih, List.length_cons]; omega
theorem flatR_get : ∀ (ds : List EnR) (t : Nat), t < ds.length * 10 → (ds.flatMap encR)[t]! = (encR ds.toArray[t / 10]!)[t % 10]!
  | [], t, h => by simp at h
  | x :: ds, t, h => by
    rw [List.length_cons] at h
    by_cases h1 : t < 10
    · have e0 : t / 10 = 0 := by omega
      have e1 : t % 10 = t := by omega
      rw [e0, e1, List.flatMap_cons]
      simp only [List.getElem!_eq_getElem?_getD, List.getElem?_append_left (show t < (encR x).length by rw [encR_len]; exact h1)]
      simp
    · obtain ⟨u, rfl⟩ : ∃ u, t = u + 10 := ⟨t - 10, by omega⟩
      have e0 : (u + 10) / 10 = u / 10 + 1 := by omega
      have e1 : (u + 10) % 10 = u % 10 := by omega
      have ih := flatR_get ds u (by omega)
      rw [e0, e1, List.flatMap_cons]
      simp only [List.getElem!_eq_getElem?_getD, List.getElem?_append_right (show (encR x).length ≤ u + 10 by rw [encR_len]; omega), encR_len, Nat.add_sub_cancel] at ih ⊢
      rw [ih]
      simp
theorem flatK_eq (ds : List EnR) : flatK encR 10 ds.toArray = (ds.flatMap encR).toArray := by
  refine ext_get! (by rw [size_flatK]; simp only [List.size_toArray, flatR_len]) fun t ht => ?_
  rw [size_flatK] at ht
  simp only [List.size_toArray] at ht
  rw [get_flatK encR 10 ds.toArray t (by simpa using ht), ← flatR_get ds t ht]
  simp
theorem sw_heap {w : World} {blk off n : Nat} {d : Array EnR} {os : Array Obj} : ∃ f : Array Value → Array Value, (∀ c, (f c).size = c.size) ∧ ∀ k, k < w.heap.size → (sortWorldK encR 10 w blk off n d os).heap[k]? = if k = blk then (w.heap[k]?).map (onCells f) else w.heap[k]? := by
  refine ⟨putCells id off (flatK encR 10 d), fun c => by simp [putCells], fun k hk => ?_⟩
  unfold sortWorldK
  rw [heap_grow_old _ _ (by rw [size_putRowK]; exact hk)]
  show ((w.heap).modify blk (onCells _))[k]? = _
  rw [Array.getElem?_modify]
  by_cases e : blk = k
  · subst e; simp
  · rw [if_neg e, if_neg (fun h => e h.symm)]
theorem hin0_one {o : AO} {id g : Nat} {x : AO} (h : hin0 [o] id = some (g, x)) : id = 1000 ∧ g = 0 ∧ x = o := by
  unfold hin0 at h
  split at h
  · rename_i h1
    match hid : id - 1000 with
    | 0 =>
      rw [hid] at h
      simp at h
      exact ⟨by omega, h.1.symm, h.2.symm⟩
    | k + 1 =>
      rw [hid] at h
      simp at h
  · cases h
theorem heap_out {M M' : Nat → Prop} {G : Gh} {nl : Bool} {cells cells' : List AV} {w w' : World} (hH : Heap 1 M G (hin0 [.row nl cells]) w) (hlt : w.heap.size ≤ w'.heap.size) (hg : AV.gl.glL 1 cells')
    (hr : ∀ ob, G.ob 1000 0 = some ob → (ob = none → cells' = []) ∧ ∀ b, ob = some b → ¬ G.S b ∧ M' b ∧ ∃ vs, RdL G w' cells' vs ∧ Blk w'.heap[b]? vs) : Heap 1 M' G (lookH [(1000, 0, .row nl cells')]) w' where
  lt b hb := Nat.lt_of_lt_of_le (hH.lt b hb) hlt
  live id g ob h := by
    obtain ⟨o, ho⟩ := hH.live id g ob h
    obtain ⟨rfl, rfl, -⟩ := hin0_one ho
    exact ⟨.row nl cells', by simp [lookH]⟩
  gl id g n c h := by
    simp only [lookH] at h
    split at h
    · simp only [Option.some.injEq, Prod.mk.injEq, AO.row.injEq] at h
      obtain ⟨rfl, -, rfl⟩ := h
      exact ⟨by omega, hg⟩
    · cases h
  inj := hH.inj
  row id g n c h := by
    simp only [lookH] at h
    split at h
    · rename_i e
      subst e
      simp only [Option.some.injEq, Prod.mk.injEq, AO.row.injEq] at h
      obtain ⟨rfl, rfl, rfl⟩ := h
      obtain ⟨ob, h1, h2, -, -⟩ := hH.row 1000 0 nl cells (by simp [hin0])
      exact ⟨ob, h1, h2, hr ob h1⟩
    · cases h
theorem free_enC {l : List Ent} : AV.free.freeL (enC l) = true := freeL_iff.2 fun x hx => by
  obtain ⟨e, _, h⟩ := List.mem_flatMap.1 hx
  have : AV.free.freeL (entL e) = true := by simp only [entL, AV.free, AV.free.freeL, str, int, free_u8, Bool.and_self]
  exact freeL_iff.1 this x h
theorem enC_gl {nl : Bool} {l : List Ent} : ∀ n cells, AO.row n cells ∈ [AO.row nl (enC l)] → AV.gl.glL 1 cells := by
  intro n cells h
  simp only [List.mem_singleton, AO.row.injEq] at h
  obtain ⟨-, rfl⟩ := h
  exact glL_of_free _ _ free_enC
set_option maxHeartbeats 1000000 in
theorem SortFunc_h [Tabs Tryd.prog] (nl : Bool) (l : List Ent) (hnl : nl = true → l = []) (hnd : (l.map (·.path)).Nodup) (hl : l.length ≤ 1000000) :
    HCon Tryd.prog 37 [.own 1000 0 (some 10) 0 l.length, .sc (.func (.func 38) #[] #[])] [.row nl (enC l)] (.tup []) [(1000, 0, .row nl (enC (sortE l)))] 1 := by
  refine ⟨by simp [AV.gl.glL, AV.gl], enC_gl, ?_⟩
  intro w G M vs hT hH hr
  simp only [RdL] at hr
  obtain ⟨v1, r1, rfl, h1, v2, r2, rfl, h2, rfl⟩ := hr
  simp only [Rd] at h2
  subst h2
  obtain ⟨ob, o1, o2, o3, o4⟩ := hH.row 1000 0 nl (enC l) (by simp [hin0])
  simp only [Rd] at h1
  obtain ⟨h1, h3⟩ := h1
  by_cases h0 : l = []
  · subst h0
    obtain ⟨p, cap, rfl⟩ : ∃ p cap, v1 = .slice p 0 cap := by rcases h1 with ⟨rfl, _⟩ | ⟨b, cap, o, rfl, _⟩ <;> exact ⟨_, _, rfl⟩
    have hc := AnyF.slices_SortFunc_none (P := Tryd.prog) Tryd.sortEnt p cap (.func (.func 38) #[] #[]) w
    change Calls Tryd.prog 37 _ _ _ at hc
    refine hc.mono ?_
    rintro e w' ⟨rfl, rfl⟩
    refine ⟨_, G, rfl, Keep.refl _ _ _, Ext.refl _ _ _, heap_out hH (Nat.le_refl _) (by simp [enC, sortE, AV.gl.glL]) ?_, by simp [Rd, RdL], by simp [AV.gl, AV.gl.glL], fun b h => .inl h⟩
    intro ob' hob
    rw [o1] at hob
    cases hob
    refine ⟨fun _ => rfl, fun b hb => ?_⟩
    obtain ⟨k1, k2, vs, k3, k4⟩ := o4 b hb
    exact ⟨k1, .inr k2, vs, k3, k4⟩
  have hnl' : nl = false := by cases nl; rfl; exact absurd (hnl rfl) h0
  subst hnl'
  obtain ⟨b, rfl⟩ : ∃ b, ob = some b := by
    cases ob
    · exact absurd (o2.2 rfl) (by simp)
    · exact ⟨_, rfl⟩
  obtain ⟨cap, o, E, k, rfl, hcap, ho, hsh, hk⟩ := h3 _ o1
  obtain ⟨nS, mB, vs, hrd, hblk⟩ := o4 b rfl
  obtain ⟨cs, E', hcs, hget, hone⟩ := hblk.shaped hsh
  obtain ⟨ds, rfl, hA⟩ := rows_split hrd hone
  have hlen := hA.length
  have hpos : 0 < l.length := List.length_pos_iff.2 h0
  have ho' : o = 0 := by rcases ho with h | h; exact h; omega
  subst ho'
  have hb : b < w.heap.size := (Array.getElem?_eq_some_iff.1 hcs).1
  have hHolds : HoldsK encR 10 w b 0 ds.toArray := by
    intro j hj
    rw [flatK_eq] at hj ⊢
    have hj' : j < (ds.flatMap encR).length := by simpa using hj
    have hv : (ds.flatMap encR)[j]? = some ((ds.flatMap encR).toArray[j]!) := by
      simp [List.getElem?_eq_getElem hj']
    have hc := hget j _ hv
    constructor
    · simp only [World.cell?, hcs, Nat.zero_add]
      rw [hc]
      rfl
    · simp only [World.frozen?, hcs]
      simp
  have hcon := AnyQ.slices_SortFunc (P := Tryd.prog) Tryd.sortEnt 10 (fun w => by kernel_rfl) (fun w => by kernel_rfl) encR encR_len encR_one cfR swoR 38 #[] b 0 cap ds.toArray w (enters_of Tryd.func38 (by kernel_rfl) rfl) (cmpLaysR b 0 _ w) hHolds hb (by simp; omega)
  change Calls Tryd.prog 37 _ _ _ at hcon
  simp only [List.size_toArray, ← hlen] at hcon
  refine hcon.mono ?_
  rintro e w' ⟨rfl, d', n, os, hp, hs, rfl⟩
  obtain ⟨hp0, -, hp1⟩ := hp
  have hd' : d'.size = l.length := by rw [hp0]; simp [hlen]
  have hperm : ds.Perm d'.toList := by
    have h1 : (d'.extract 0 l.length).toList = d'.toList := by rw [← hd']; simp
    have h2 : (ds.toArray.extract 0 l.length).toList = ds := by rw [hlen]; simp
    rw [h1, h2] at hp1
    exact hp1.symm
  obtain ⟨l', hl1, hl2⟩ := hA.perm hperm
  have hsrt : SrtE l' := by
    rw [SrtE, List.pairwise_iff_getElem]
    intro i j hi hj hij
    have hli := hl2.length
    have hij' : i < d'.toList.length := by rw [← hli]; exact hi
    have hjj' : j < d'.toList.length := by rw [← hli]; exact hj
    have hss := hs i j (Nat.zero_le _) hij (by rw [← hd']; simpa using hjj')
    rw [ltR] at hss
    have e1 := (hl2.get i hi hij').1
    have e2 := (hl2.get j hj hjj').1
    have g1 : d'[i]! = d'.toList[i] := by rw [getElem!_pos d' i (by simpa using hij')]; simp
    have g2 : d'[j]! = d'.toList[j] := by rw [getElem!_pos d' j (by simpa using hjj')]; simp
    rw [g1, g2, e1, e2] at hss
    have hss : ltB l'[j].path l'[i].path = false := hss
    cases hh : ltB l'[i].path l'[j].path
    · exfalso
      have heq := ltB_tri hh hss
      have hnd' : (l'.map (·.path)).Nodup := (hl1.map _).nodup_iff.1 hnd
      have := (List.pairwise_iff_getElem.1 hnd') i j (by simpa using hi) (by simpa using hj) hij
      simp only [List.getElem_map] at this
      exact this heq
    · rfl
  have hsl : l' = sortE l := srtE_sortE hsrt hl1.symm hnd
  rw [hsl] at hl2
  have hsz : w.heap.size ≤ (sortWorldK encR 10 w b 0 n d' os).heap.size := by unfold sortWorldK; rw [size_grow, size_putRowK]; exact Nat.le_add_right _ _
  have hkeep : ∀ k, k < w.heap.size → k ≠ b → (sortWorldK encR 10 w b 0 n d' os).heap[k]? = w.heap[k]? := fun k h1 h2 => by
    obtain ⟨f, -, hf⟩ := sw_heap (w := w) (blk := b) (off := 0) (n := n) (d := d') (os := os)
    rw [hf k h1, if_neg h2]
  obtain ⟨f, hfs, hf⟩ := sw_heap (w := w) (blk := b) (off := 0) (n := n) (d := d') (os := os)
  have hf := hf b hb
  rw [if_pos rfl, hcs] at hf
  have hf : (sortWorldK encR 10 w b 0 n d' os).heap[b]? = some (.cells (f cs) E' (0, 0)) := hf
  have hH' := holdsK_sortWorldK_c encR 10 w b 0 ds.toArray d' n os hHolds hb (by rw [hd']; simp [hlen])
  obtain ⟨W, hW⟩ : ∃ W, W = sortWorldK encR 10 w b 0 n d' os := ⟨_, rfl⟩
  rw [← hW] at hsz hkeep hf hH' ⊢
  have hSk : ∀ c, G.S c → W.heap[c]? = w.heap[c]? := fun c hc => hkeep c (hH.lt c hc) (fun h => nS (h ▸ hc))
  have hrd' : RdL G w (enC (sortE l)) (d'.toList.flatMap encR) := rows_join hl2
  refine ⟨_, G, rfl, ?_, ?_, heap_out hH hsz (glL_of_free _ _ free_enC) ?_, by simp [Rd, RdL], by simp [AV.gl, AV.gl.glL], fun b h => .inl h⟩
  · exact ⟨by rw [hW]; rfl, by rw [hW]; rfl, by rw [hW]; rfl, hsz, fun k h1 h2 => hkeep k h1 (fun h => h2 (h ▸ mB))⟩
  · refine ⟨fun _ h => h, hSk, fun c p hp => ?_, fun _ _ _ _ h => h⟩
    by_cases hcb : c = b
    · subst hcb
      simp only [World.shape?, hcs, hf] at hp ⊢
      rw [hfs]
      exact hp
    · by_cases hc : c < w.heap.size
      · simp only [World.shape?, hkeep c hc hcb] at hp ⊢
        exact hp
      · simp only [World.shape?, Array.getElem?_eq_none (Nat.le_of_not_lt hc)] at hp
        cases hp
  · intro ob' hob
    rw [o1] at hob
    obtain rfl := Option.some.inj hob
    refine ⟨fun h => (by cases h), fun b' hb' => ?_⟩
    obtain rfl := Option.some.inj hb'
    refine ⟨nS, .inr mB, _, RdL.of_free (fun _ h => h) hSk _ _ free_enC hrd', Blk.cells hf ?_ ?_⟩
    · intro j v hv
      have hj : j < (d'.toList.flatMap encR).length := (List.getElem?_eq_some_iff.1 hv).1
      have e : flatK encR 10 d' = (d'.toList.flatMap encR).toArray := by simpa using flatK_eq d'.toList
      have h1 := (hH' j (by rw [e]; simpa using hj)).1
      rw [e] at h1
      simp only [World.cell?, hf, Nat.zero_add] at h1
      have hv' : (d'.toList.flatMap encR).toArray[j]! = v := by
        rw [List.getElem?_eq_getElem hj] at hv
        simp only [Option.some.injEq] at hv
        rw [← hv]
        simp [List.getElem?_eq_getElem hj]
      rw [hv'] at h1
      exact h1
    · intro v hv
      obtain ⟨x, _, hx⟩ := List.mem_flatMap.1 hv
      exact encR_one x v hx
end Go.Proofs.YtbmmdkbinlnogaaDoor.Aw
namespace Go.Proofs.YtbmmdkbinlnogaaDoor.Aw
open Go
set_option linter.unusedSimpArgs false
set_option linter.unusedVariables false
theorem Con.alloc2 {P : Program} [Tabs P] {f : Nat} {xs : List Value} {v : Value} (a b : World → Obj) (h : ∀ w, Calls P f xs.toArray w fun e w' => e = .returned v ∧ w' = (w.alloc (a w)).alloc (b w)) : Con P f (xs.map .sc) (.sc v) := by
  intro w S vs _ hS hr
  rw [rdL_sc_inv hr]
  refine (h w).mono ?_
  rintro e w' ⟨rfl, rfl⟩
  have e : ((w.alloc (a w)).alloc (b w)).heap = (w.heap.push (a w)).push (b w) := rfl
  have hsz : w.heap.size ≤ ((w.alloc (a w)).alloc (b w)).heap.size := by rw [e, Array.size_push, Array.size_push]; omega
  refine ⟨v, S, rfl, ⟨rfl, rfl, rfl, hsz, fun k hk _ => ?_⟩, fun _ h => h, fun _ h => .inl h, fun b hb => Nat.lt_of_lt_of_le (hS b hb) hsz, rfl, by simp [Rd]⟩
  rw [e]
  rw [Array.getElem?_push_lt (by simp; omega), Array.getElem_push_lt hk, Array.getElem?_eq_getElem hk]
theorem IndexAny_long_c [Tabs Tryd.prog] (s cs : List UInt8) (h8 : 8 < s.length) (hs : s.length ≤ 1000000) (h2 : 2 ≤ cs.length) (hc : cs.length ≤ 100) (ha : ∀ c ∈ cs, c.toNat < 128) : Con Tryd.prog n_strings_IndexAny [str s, str cs] (int (Lib.indexAny s cs)) := by
  refine Con.alloc2 (xs := [.string ⟨s.toArray⟩, .string ⟨cs.toArray⟩]) (fun _ => .cells (Lib.setCells cs) _) (fun _ => .cells (Lib.setCells cs) _) fun w => Any.strings_IndexAny_long Tryd.lays153 (fun w => by kernel_rfl) (by kernel_rfl) ⟨s.toArray⟩ ⟨cs.toArray⟩ w (by simpa [ByteArray.size] using h2) (by simpa [ByteArray.size] using h8) (by simp [ByteArray.size]; omega) (by simp [ByteArray.size]; omega) (fun j b hb => ha b (List.mem_of_getElem? hb))
end Go.Proofs.YtbmmdkbinlnogaaDoor.Aw
namespace Go.Proofs.YtbmmdkbinlnogaaDoor.Sx
open Go Go.Proofs Go.Shelf Go.RowKit Go.Lib
set_option linter.unusedSimpArgs false
set_option linter.unusedVariables false
variable {P : Program} {ρ : Ren}
theorem get_of {s : ByteArray} {k : Nat} {b : UInt8} (h : s.data.toList[k]? = some b) : s.get! k = b := by
  have hk : k < s.size := by
    have := (List.getElem?_eq_some_iff.1 h).1
    rw [← Lib.size_eq] at this
    exact this
  have h2 := Lib.data_getElem? s k hk
  rw [h] at h2
  have := get_at s k hk
  rw [show s.get! (k + 0) = s.get! k from rfl] at this
  rw [this]
  exact (Option.some.inj h2).symm
theorem decodeN_run (n c0 c1 c2 c3 : Nat) (hn : 1 ≤ n) (h0 : 128 ≤ c0) : (decodeN n c0 c1 c2 c3).2 ≤ n ∧ (decodeN n c0 c1 c2 c3).2 ≤ 4 ∧ (1 < (decodeN n c0 c1 c2 c3).2 → 128 ≤ c1) ∧ (2 < (decodeN n c0 c1 c2 c3).2 → 128 ≤ c2) ∧ (3 < (decodeN n c0 c1 c2 c3).2 → 128 ≤ c3) := by
  unfold decodeN
  repeat' split
  all_goals (refine ⟨?_, ?_, fun h => ?_, fun h => ?_, fun h => ?_⟩ <;> simp only at * <;> omega)
theorem decode_run (s : ByteArray) (i : Nat) (h : i < s.size) (ha : 128 ≤ (s[i]'h).toNat) : i + (Utf8.decode s i).2 ≤ s.size ∧ ∀ j (b : UInt8), j < (Utf8.decode s i).2 → s.data.toList[i + j]? = some b → 128 ≤ b.toNat := by
  have h0 : 128 ≤ (s.get! i).toNat := by
    have := get_at s i h
    rw [show s.get! (i + 0) = s.get! i from rfl] at this
    rw [this]
    exact ha
  rw [decode_at]
  obtain ⟨k1, k4, k2, k3, k5⟩ := decodeN_run (s.size - i) (s.get! i).toNat (s.get! (i + 1)).toNat (s.get! (i + 2)).toNat (s.get! (i + 3)).toNat (by omega) h0
  refine ⟨by omega, fun j b hj hb => ?_⟩
  rw [← get_of hb]
  have : j = 0 ∨ j = 1 ∨ j = 2 ∨ j = 3 := by omega
  rcases this with rfl | rfl | rfl | rfl
  · exact h0
  · exact k2 hj
  · exact k3 hj
  · exact k5 hj
theorem NoAny.run {s chars : List UInt8} {i k : Nat} (h : NoAny s chars i) (hs : ∀ j (b : UInt8), j < k → s[i + j]? = some b → 128 ≤ b.toNat) (hc : ∀ c ∈ chars, c.toNat < 128) : NoAny s chars (i + k) := fun j b hj hb => by
  by_cases e : j < i
  · exact h j b e hb
  · have h1 := hs (j - i) b (by omega) (by rw [show i + (j - i) = j by omega]; exact hb)
    cases hin : chars.contains b
    · rfl
    · have := hc b (by simpa using hin)
      omega
theorem indexByte_high {s : List UInt8} {c : UInt8} (hs : ∀ b ∈ s, b.toNat < 128) (hc : 128 ≤ c.toNat) : Lib.indexByte s c = -1 := by
  have h := Lib.contains_iff_indexByte s c
  have hn : s.contains c = false := by
    cases hin : s.contains c
    · rfl
    · have := hs c (by simpa using hin)
      omega
  rw [hn] at h
  have h1 := of_decide_eq_false h.symm
  have h2 := Lib.indexByte_ge s c
  omega
end Go.Proofs.YtbmmdkbinlnogaaDoor.Sx
namespace Go.Proofs.YtbmmdkbinlnogaaDoor.Sx
open Go Go.Proofs Go.Shelf Go.RowKit Go.Lib
set_option linter.unusedSimpArgs false
set_option linter.unusedVariables false
variable {P : Program} {ρ : Ren}
theorem below_dr (w : World) : ∀ n, Below w.heap.size w (w.drewN n)
  | 0 => Below.refl _ _
  | n + 1 => (below_dr w n).drew
set_option maxHeartbeats 4000000 in
set_option maxRecDepth 1000000 in
theorem IndexRune_err (L : Lays.n152 P ρ) (s : ByteArray) (w : World) (ha : ∀ b ∈ s.data.toList, b.toNat < 128) :
    Calls P (ρ.f 152) #[.string s, .int .i32 65533] w fun e w' => e = .returned (.int .i64 (-1)) ∧ Below w.heap.size w w' := by
  have HA : Aside (∀ b ∈ s.data.toList, b.toNat < 128) := ha
  clear ha
  have mixed := L.mixed
  have t3 := L.t3; have a3 := L.a3; have z3 := L.z3; have v3 := L.v3
  have t4 := L.t4; have a4 := L.a4; have z4 := L.z4; have v4 := L.v4
  have t5 := L.t5; have a5 := L.a5; have z5 := L.z5; have v5 := L.v5
  have t9 := L.t9; have a9 := L.a9; have z9 := L.z9; have v9 := L.v9
  have t21 := L.t21; have a21 := L.a21; have z21 := L.z21; have v21 := L.v21
  go_enter L.f152, Body.n152_ntmps ρ
  go_wp2
  go_loopg [5, 6] s.size (fun g _ _ wx => ∃ i : Nat, i + g = s.size ∧ wx = w.iter s i)
  case atStart => exact ⟨0, by omega, rfl⟩
  case round =>
    obtain ⟨i, hig, rfl⟩ := hrel
    cases gk with
    | zero =>
      obtain rfl : i = s.size := by omega
      have hnx := run_next_end (P := P) w s s.size
      go_wp2
      go_ret
      exact ⟨rfl, (Below.refl _ w).alloc (Nat.le_refl _) _⟩
    | succ g =>
      have hi : i < s.size := by omega
      have hb : (s[i]'hi).toNat < 128 := HA.out _ (List.mem_of_getElem? (Lib.data_getElem? s i hi))
      have hnx := fun ty => run_next_ascii (P := P) w s i ty hi hb
      obtain ⟨x, hx⟩ : ∃ x : Nat, (s[i]'hi).toNat = x := ⟨_, rfl⟩
      rw [hx] at hnx hb
      have hne : ¬ ((x : Int) = 65533) := by omega
      go_wp2
      go_roundg g
      case measure => omega
      case rel => exact ⟨i + 1, by omega, rfl⟩
set_option maxHeartbeats 4000000 in
set_option maxRecDepth 1000000 in
theorem IndexRune_high (L : Lays.n152 P ρ) (s : ByteArray) (r : Int) (w : World) (h0 : 128 ≤ r) (h1 : r ≤ 1114111) (hs : s.size ≤ 3) (ha : ∀ b ∈ s.data.toList, b.toNat < 128) :
    Calls P (ρ.f 152) #[.string s, .int .i32 r] w fun e w' => e = .returned (.int .i64 (-1)) ∧ Below w.heap.size w w' := by
  by_cases he : r = 65533
  · subst he; exact IndexRune_err L s w ha
  have mixed := L.mixed
  have t3 := L.t3; have a3 := L.a3; have z3 := L.z3; have v3 := L.v3
  have t4 := L.t4; have a4 := L.a4; have z4 := L.z4; have v4 := L.v4
  have t5 := L.t5; have a5 := L.a5; have z5 := L.z5; have v5 := L.v5
  have t9 := L.t9; have a9 := L.a9; have z9 := L.z9; have v9 := L.v9
  have t21 := L.t21; have a21 := L.a21; have z21 := L.z21; have v21 := L.v21
  have e119 : ∀ args w, (callFunc (ρ.f 119) args).run P w = .ok (.enter (ρ.f 119) args) w := enters_of L.f119 (by kernel_rfl) rfl
  have e137 : ∀ args w, (callFunc (ρ.f 137) args).run P w = .ok (.enter (ρ.f 137) args) w := enters_of L.f137 (by kernel_rfl) rfl
  have hlt : ¬ (r < 128) := by omega
  have hle : (0 : Int) ≤ r := by omega
  cases hv : Lib.validRune r
  · have c119 := Any.utf8_ValidRune (P := P) (ρ := ρ) { L with } r w
    rw [hv] at c119
    go_enter L.f152, Body.n152_ntmps ρ
    go_wp2_with (go_at_fn (ρ.f 119); refine c119.mono ?_; rintro e w' ⟨rfl, hw⟩; rw [hw])
    go_ret
    exact ⟨rfl, Below.refl _ _⟩
  · have c119 := Any.utf8_ValidRune (P := P) (ρ := ρ) { L with } r w
    rw [hv] at c119
    have hconv : ∀ w, (convert (ρ.t 21) (ρ.t 9) (.int .i32 r)).run P w = .ok (.string (Utf8.encode r)) w := fun w => run_convert_int_string w _ _ _ _ (by rw [t21]; rfl) t9
    obtain ⟨f1, f2, f3⟩ := encode_facts r (by rw [validRune_eq]; exact hv) h0
    obtain ⟨E, hE⟩ : ∃ E, Utf8.encode r = E := ⟨_, rfl⟩
    rw [hE] at hconv f1 f2 f3
    obtain ⟨n, hn⟩ : ∃ n, E.size = n + 1 := ⟨E.size - 1, by omega⟩
    have hlast : ((E.size : Int) - 1) = (n : Int) := by omega
    have hnE : n < E.size := by omega
    obtain ⟨c, hc⟩ : ∃ c : UInt8, E[n]'hnE = c := ⟨_, rfl⟩
    have hc128 : 128 ≤ c.toNat := by
      have := f3 (by omega)
      rw [← hc]
      have e : E.size - 1 = n := by omega
      simp only [e] at this
      exact this
    clear f3
    have HA : Aside (∀ b ∈ s.data.toList, b.toNat < 128) := ha
    clear ha hE
    by_cases hin : n < s.size
    · obtain ⟨x, hx⟩ : ∃ x : UInt8, s[n]'hin = x := ⟨_, rfl⟩
      have hx128 : x.toNat < 128 := by rw [← hx]; exact HA.out _ (List.mem_of_getElem? (Lib.data_getElem? s n hin))
      have hne : ((x.toNat : Int) == (c.toNat : Int)) = false := beq_eq_false_iff_ne.2 (by omega)
      have hz : (n : Int) < (s.size : Int) := by omega
      have hidx : Lib.indexByte (s.extract (n + 1) s.size).data.toList c = -1 := indexByte_high (fun b hb => HA.out b (mem_extract hb)) hc128
      have hw1 : IntKind.i64.wrap ((n : Int) + 1) = (n : Int) + 1 := wrap_small _ (by omega) (by omega)
      have hw2 : (0 : Int) ≤ (n : Int) + 1 := by omega
      have hw3 : (n : Int) + 1 ≤ (s.size : Int) := by omega
      have hw4 : ((n : Int) + 1).toNat = n + 1 := by omega
      have hsl : ∀ W, (Instr.slice (ρ.t 9) (.string s) (some (.int .i64 ((n : Int) + 1))) none none).run P W = .ok (.string (s.extract (n + 1) s.size)) W := fun W => by
        rw [run_slice_string_from_if W (ρ.t 9) s .i64 ((n : Int) + 1) t9, if_pos (by omega)]
        rfl
      have hi1 : ∀ W, (Instr.index (ρ.t 9) (.string s) (.int .i64 (n : Int))).run P W = .ok (.int .u8 x.toNat) W := fun W => by
        rw [run_index_string W (ρ.t 9) s .i64 (n : Int) t9, dif_pos (by omega)]
        simp only [Int.toNat_natCast, hx]
      have hi2 : ∀ W, (Instr.index (ρ.t 9) (.string E) (.int .i64 (n : Int))).run P W = .ok (.int .u8 c.toNat) W := fun W => by
        rw [run_index_string W (ρ.t 9) E .i64 (n : Int) t9, dif_pos (by omega)]
        simp only [Int.toNat_natCast, hc]
      have cI : ∀ W, Calls P (ρ.f 137) #[.string (s.extract (n + 1) s.size), .int .u8 c.toNat] W fun e w' => e = .returned (.int .i64 (-1)) ∧ w' = W := fun W => by
        have h := Any.strings_IndexByte (P := P) (ρ := ρ) { L with } (s.extract (n + 1) s.size) c.toNat W
        rw [show ((c.toNat : Int)).toNat.toUInt8 = c by simp, hidx] at h
        exact h
      clear hx hc
      go_enter L.f152, Body.n152_ntmps ρ
      go_wp2_with (go_at_fn (ρ.f 119); refine c119.mono ?_; rintro e w' ⟨rfl, hw⟩; rw [hw])
      go_step3
      go_wp2
      go_loopg [9] 0 (fun g s9 wx => s9 = .int .i64 (n : Int) ∧ wx = w)
      case atStart => exact ⟨rfl, rfl⟩
      case round =>
        obtain ⟨rfl, rfl⟩ := hrel
        go_wp2
        go_step3
        go_wp2_with fail
        go_quiet_o (fail)
        go_wp2_with fail
        have hbl : Below wr.heap.size wr (wr.drewN nq) := below_dr wr nq
        generalize wr.drewN nq = W1 at hbl ⊢
        go_quiet_o (first | (go_at_fn (ρ.f 137); refine Calls.quiet_of_same (cI _)))
        go_wp2
        simp only [Exit.noGoto_ret, go_sem]
        go_ret
        exact ⟨rfl, hbl.trans ((below_dr W1 _).mono hbl.size)⟩
    · have hz : ¬ ((n : Int) < (s.size : Int)) := by omega
      go_enter L.f152, Body.n152_ntmps ρ
      go_wp2_with (go_at_fn (ρ.f 119); refine c119.mono ?_; rintro e w' ⟨rfl, hw⟩; rw [hw])
      go_step3
      go_wp2
      go_loopg [9] 0 (fun g s9 wx => s9 = .int .i64 (n : Int) ∧ wx = w)
      case atStart => exact ⟨rfl, rfl⟩
      case round =>
        obtain ⟨rfl, rfl⟩ := hrel
        go_wp2
        simp only [Exit.noGoto_ret, go_sem]
        go_ret
        exact ⟨rfl, Below.refl _ _⟩
set_option maxHeartbeats 8000000 in
set_option maxRecDepth 1000000 in
theorem IndexAny_short (L : Lays.n153 P ρ) (s chars : ByteArray) (w : World) (h2 : 2 ≤ chars.size) (h3 : chars.size ≤ 3) (h8 : s.size ≤ 8) (hac : ∀ b ∈ chars.data.toList, b.toNat < 128) :
    Calls P (ρ.f 153) #[.string s, .string chars] w fun e w' => e = .returned (.int .i64 (Lib.indexAny s.data.toList chars.data.toList)) ∧ Below w.heap.size w w' := by
  have HC : Aside (∀ b ∈ chars.data.toList, b.toNat < 128) := hac
  clear hac
  have hemp : chars.toList.isEmpty = false := by
    rw [Lib.toList_data]
    cases h : chars.data.toList with
    | nil => have := Lib.size_eq chars; rw [h, List.length_nil] at this; omega
    | cons _ _ => rfl
  have hn1 : ((chars.size : Int) == 1) = false := beq_eq_false_iff_ne.2 (by omega)
  have h8z : decide ((8 : Int) < (s.size : Int)) = false := decide_eq_false (by omega)
  have mixed := L.mixed
  have t3 := L.t3; have a3 := L.a3; have z3 := L.z3; have v3 := L.v3
  have t4 := L.t4; have a4 := L.a4; have z4 := L.z4; have v4 := L.v4
  have t5 := L.t5; have a5 := L.a5; have z5 := L.z5; have v5 := L.v5
  have t9 := L.t9; have a9 := L.a9; have z9 := L.z9; have v9 := L.v9
  have t21 := L.t21; have a21 := L.a21; have z21 := L.z21; have v21 := L.v21
  have e152 : ∀ args w, (callFunc (ρ.f 152) args).run P w = .ok (.enter (ρ.f 152) args) w := enters_of L.f152 (by kernel_rfl) rfl
  have e226 : ∀ args w, (callFunc (ρ.f 226) args).run P w = .ok (.enter (ρ.f 226) args) w := enters_of L.f226 (by kernel_rfl) rfl
  go_enter L.f153, Body.n153_ntmps ρ
  go_wp2_with (go_at_fn (ρ.f 226); refine (Any.strings_shouldUseASCIISet { L with } _ _).mono ?_; rintro e w' ⟨rfl, hw⟩; rw [hw, h8z])
  go_loopg [9, 10] s.size (fun g _ _ wx => ∃ i : Nat, i ≤ s.size ∧ s.size ≤ i + g ∧ wx.heap[w.heap.size]? = some (.stringIter s i) ∧ Below w.heap.size w wx ∧ Lib.NoAny s.data.toList chars.data.toList i)
  case atStart => exact ⟨0, Nat.zero_le _, by omega, World.iter_heap w s 0, (Below.refl _ w).alloc (Nat.le_refl _) _, Lib.NoAny.zero _ _⟩
  case round =>
    obtain ⟨i, his, hig, hit, hbw, hno⟩ := hrel
    have HN : Aside (Lib.NoAny s.data.toList chars.data.toList i) := hno
    clear hno
    by_cases hi : i < s.size
    case neg =>
      obtain rfl : i = s.size := by omega
      have hnx : ∀ ty, (Instr.next (.pointer (some ⟨w.heap.size, 0, none⟩)) true ty).run P wr = _ := fun ty => Lib.run_next_end_at wr w.heap.size s s.size ty hit hi
      go_wp2
      go_ret
      exact ⟨by rw [Lib.indexAny_none (by rw [← Lib.size_eq]; exact HN.out)]; rfl, hbw⟩
    obtain ⟨g, rfl⟩ : ∃ g, gk = g + 1 := ⟨gk - 1, by omega⟩
    obtain ⟨x, hx⟩ : ∃ x : UInt8, s[i]'hi = x := ⟨_, rfl⟩
    have hxl : s.data.toList[i]? = some x := by rw [← hx]; exact Lib.data_getElem? s i hi
    have Hx : Aside (s.data.toList[i]? = some x) := hxl
    clear hxl
    by_cases hx128 : x.toNat < 128
    · have hnx : ∀ ty, (Instr.next (.pointer (some ⟨w.heap.size, 0, none⟩)) true ty).run P wr = _ := fun ty => Lib.run_next_ascii_at wr w.heap.size s i ty hit hi (by rw [hx]; exact hx128)
      rw [hx] at hnx
      clear hx
      have hit2 := Lib.iterAt_heap wr w.heap.size s i (i + 1) hit
      have hbw2 := Lib.below_iterAt hbw (k := w.heap.size) (Nat.le_refl _) s (i + 1)
      obtain ⟨W, hWd⟩ : ∃ W, wr.iterAt w.heap.size s (i + 1) = W := ⟨_, rfl⟩
      rw [hWd] at hnx hit2 hbw2
      have hcon := Lib.contains_iff_indexByte chars.data.toList x
      have hback : ((x.toNat : Int)).toNat.toUInt8 = x := by simp
      cases hin : chars.data.toList.contains x
      · rw [hin] at hcon
        have hlt : ¬ ((0 : Int) ≤ Lib.indexByte chars.data.toList x) := of_decide_eq_false hcon.symm
        clear hcon
        go_wp2_with (go_at_fn (ρ.f 152); refine (Any.strings_IndexRune_ascii { L with } _ _ _ (by omega) (by omega)).mono ?_; rintro e w' ⟨rfl, hw⟩; rw [hw, hback])
        go_roundg g
        case measure => omega
        case rel => exact ⟨i + 1, by omega, by omega, hit2, hbw2, HN.out.succ Hx.out hin⟩
      · rw [hin] at hcon
        have hge : (0 : Int) ≤ Lib.indexByte chars.data.toList x := of_decide_eq_true hcon.symm
        clear hcon
        go_wp2_with (go_at_fn (ρ.f 152); refine (Any.strings_IndexRune_ascii { L with } _ _ _ (by omega) (by omega)).mono ?_; rintro e w' ⟨rfl, hw⟩; rw [hw, hback])
        go_ret
        exact ⟨by rw [Lib.indexAny_hit HN.out Hx.out hin]; rfl, hbw2⟩
    · have hxh : 128 ≤ (s[i]'hi).toNat := by rw [hx]; omega
      have hnx : ∀ ty, (Instr.next (.pointer (some ⟨w.heap.size, 0, none⟩)) true ty).run P wr = _ := fun ty => Lib.run_next_any_at wr w.heap.size s i ty hit hi
      obtain ⟨d1, d2⟩ := decode_high s i hi hxh
      have d4 : (Utf8.decode s i).1 ≤ 1114111 := Lib.rune_le s i
      obtain ⟨d5, d6⟩ := decode_run s i hi hxh
      obtain ⟨R, hR⟩ : ∃ R, (Utf8.decode s i).1 = R := ⟨_, rfl⟩
      obtain ⟨K, hK⟩ : ∃ K, (Utf8.decode s i).2 = K := ⟨_, rfl⟩
      rw [hR, hK] at hnx
      rw [hR] at d1 d4
      rw [hK] at d2 d5 d6
      clear hx hxh
      have HN2 : Aside (Lib.NoAny s.data.toList chars.data.toList (i + K)) := NoAny.run HN.out d6 HC.out
      clear d6
      have hit2 := Lib.iterAt_heap wr w.heap.size s i (i + K) hit
      have hbw2 := Lib.below_iterAt hbw (k := w.heap.size) (Nat.le_refl _) s (i + K)
      obtain ⟨W, hWd⟩ : ∃ W, wr.iterAt w.heap.size s (i + K) = W := ⟨_, rfl⟩
      rw [hWd] at hnx hit2 hbw2
      have hltW : w.heap.size < W.heap.size := (Array.getElem?_eq_some_iff.1 hit2).1
      have cR := IndexRune_high (P := P) (ρ := ρ) { L with } chars (R : Int) W (by omega) (by omega) h3 HC.out
      go_wp2_with (go_at_fn (ρ.f 152); refine cR.mono ?_; rintro e W' ⟨rfl, hbc⟩)
      go_roundg g
      case measure => omega
      case rel => exact ⟨i + K, by omega, by omega, (hbc.block _ hltW).trans hit2, hbw2.trans (hbc.mono hbw2.size), HN2.out⟩
end Go.Proofs.YtbmmdkbinlnogaaDoor.Sx
namespace Go.Proofs.YtbmmdkbinlnogaaDoor.Aw
open Go
set_option linter.unusedSimpArgs false
set_option linter.unusedVariables false
theorem Con.below {P : Program} [Tabs P] {f : Nat} {xs : List Value} {v : Value} (h : ∀ w, Calls P f xs.toArray w fun e w' => e = .returned v ∧ Go.RowKit.Below w.heap.size w w') : Con P f (xs.map .sc) (.sc v) := by
  intro w S vs _ hS hr
  rw [rdL_sc_inv hr]
  refine (h w).mono ?_
  rintro e w' ⟨rfl, hb⟩
  exact ⟨v, S, rfl, ⟨hb.os, hb.tape, hb.output, hb.size, fun k hk _ => hb.block k hk⟩, fun _ h => h, fun _ h => .inl h, fun b hb' => Nat.lt_of_lt_of_le (hS b hb') hb.size, rfl, by simp [Rd]⟩
theorem IndexAny_c [Tabs Tryd.prog] (s cs : List UInt8) (hs : s.length ≤ 1000000) (h2 : 2 ≤ cs.length) (hc : cs.length ≤ 3) (ha : ∀ c ∈ cs, c.toNat < 128) : Con Tryd.prog n_strings_IndexAny [str s, str cs] (int (Lib.indexAny s cs)) := by
  by_cases h8 : 8 < s.length
  · exact IndexAny_long_c s cs h8 hs h2 (by omega) ha
  · exact Con.below (xs := [.string ⟨s.toArray⟩, .string ⟨cs.toArray⟩]) fun w => Sx.IndexAny_short Tryd.lays153 ⟨s.toArray⟩ ⟨cs.toArray⟩ w (by simpa [ByteArray.size] using h2) (by simpa [ByteArray.size] using hc) (by simp [ByteArray.size]; omega) (fun b hb => ha b (by simpa using hb))
def anyOf (s cs : List UInt8) : Bool := cs.any fun c => hasB s c
theorem indexAny_any (cs : List UInt8) : ∀ s : List UInt8, decide (0 ≤ Lib.indexAny s cs) = s.any fun b => cs.contains b
  | [] => rfl
  | b :: s => by
    have ih := indexAny_any cs s
    rw [Lib.indexAny, List.any_cons]
    cases h : cs.contains b
    · have hg := Lib.indexAny_ge cs s
      rw [Bool.false_or, ← ih]
      simp only [Bool.false_eq_true, if_false]
      by_cases h1 : Lib.indexAny s cs = -1
      · rw [h1]; rfl
      · rw [if_neg (by simpa using h1)]
        by_cases h2 : 0 ≤ Lib.indexAny s cs
        · rw [decide_eq_true h2, decide_eq_true (by omega)]
        · omega
    · simp
theorem hasB_any (s : List UInt8) (c : UInt8) : hasB s c = s.contains c := (Lib.contains_iff_indexByte s c).symm
theorem anyOf_eq (s cs : List UInt8) : (s.any fun b => cs.contains b) = anyOf s cs := by
  unfold anyOf
  rw [Bool.eq_iff_iff]
  simp only [List.any_eq_true, hasB_any, List.contains_iff_mem]
  exact ⟨fun ⟨b, h1, h2⟩ => ⟨b, h2, h1⟩, fun ⟨b, h1, h2⟩ => ⟨b, h2, h1⟩⟩
set_option maxRecDepth 100000 in
theorem ContainsAny_c [Tabs Tryd.prog] (s cs : List UInt8) (hs : s.length ≤ 1000000) (h2 : 2 ≤ cs.length) (hc : cs.length ≤ 3) (ha : ∀ c ∈ cs, c.toNat < 128) : Con Tryd.prog n_strings_ContainsAny [str s, str cs] (boo (anyOf s cs)) := by
  refine Con.of' mix Tryd.func55 rfl Tryd.ntmps55 e_strings_ContainsAny r_strings_ContainsAny (by simp) rfl rfl ?_
  unfold s_strings_ContainsAny
  obtain ⟨Z, hZ⟩ : ∃ Z, Z = anyOf s cs := ⟨_, rfl⟩
  rw [← hZ]
  repeat (first | refine wA ?_ | refine wB ?_ | refine wC rfl ?_ | refine wD rfl ?_ | refine wE ?_ | refine wF (by omega) ?_ | ((first | refine wG ?_ | refine wH ?_ | refine wI ?_ | refine wJ ?_ | refine wK ?_ | refine wL ?_); simp (disch := omega) only [wP, wZ, undef, UInt8.reduceToNat, Nat.reduceOr, Nat.reduceAnd, Nat.reduceXor, Nat.reduceDiv, if_pos, if_neg, aStore, frz, AV.flat, ↓reduceIte, ne_eq, reduceCtorEq, Int.reduceToNat, Nat.reduceEqDiff, Nat.reduceAdd, Nat.reduceSub, Nat.reduceMul, Int.reduceAdd, Int.reduceMul, Int.reduceSub, Int.reduceLT, Int.reduceLE, Int.reduceEq, Int.reduceNe, Nat.reduceLeDiff, Nat.reduceLT, Int.reduceNeg, Nat.reducePow, Nat.reduceMod, ByteArray.size]))
  refine goC_p _ (.inl ⟨rfl, IndexAny_c s cs hs h2 hc ha⟩) ?_
  rw [← anyOf_eq, ← indexAny_any] at hZ
  obtain ⟨I, hI⟩ : ∃ I, I = Lib.indexAny s cs := ⟨_, rfl⟩
  rw [← hI] at hZ ⊢
  subst hZ
  repeat (first | refine wA ?_ | refine wB ?_ | refine wC rfl ?_ | refine wD rfl ?_ | refine wE ?_ | refine wF (by omega) ?_ | ((first | refine wG ?_ | refine wH ?_ | refine wI ?_ | refine wJ ?_ | refine wK ?_ | refine wL ?_); simp (disch := omega) only [wP, wZ, undef, UInt8.reduceToNat, Nat.reduceOr, Nat.reduceAnd, Nat.reduceXor, Nat.reduceDiv, if_pos, if_neg, aStore, frz, AV.flat, ↓reduceIte, ne_eq, reduceCtorEq, Int.reduceToNat, Nat.reduceEqDiff, Nat.reduceAdd, Nat.reduceSub, Nat.reduceMul, Int.reduceAdd, Int.reduceMul, Int.reduceSub, Int.reduceLT, Int.reduceLE, Int.reduceEq, Int.reduceNe, Nat.reduceLeDiff, Nat.reduceLT, Int.reduceNeg, Nat.reducePow, Nat.reduceMod, ByteArray.size, boo, ge_iff_le]))
theorem caOk [Tabs Tryd.prog] : CaOk where
  three s hs := by
    have h := ContainsAny_c s [0, 10, 58] (by omega) (by decide) (by decide) (by decide)
    simp only [anyOf, List.any_cons, List.any_nil, Bool.or_false] at h
    exact h
  two s hs := by
    have h := ContainsAny_c s [0, 10] (by omega) (by decide) (by decide) (by decide)
    simp only [anyOf, List.any_cons, List.any_nil, Bool.or_false] at h
    exact h
end Go.Proofs.YtbmmdkbinlnogaaDoor.Aw
namespace Go.Proofs.YtbmmdkbinlnogaaDoor.Aw
open Go
set_option linter.unusedSimpArgs false
set_option linter.unusedVariables false
theorem enC_cons {e : Ent} {l : List Ent} : enC (e :: l) = entL e ++ enC l := by simp [enC]
theorem enC_append {l m : List Ent} : enC l ++ enC m = enC (l ++ m) := by simp [enC]
theorem flat_en {l : List Ent} : flat (some 10) (l.map entV) = enC l := by
  induction l with
  | nil => rfl
  | cons p l ih =>
    rw [List.map_cons, enC_cons, ← ih]
    rfl
theorem length_enC {l : List Ent} : (enC l).length = l.length * 10 := by
  induction l with
  | nil => rfl
  | cons p l ih => rw [enC_cons, List.length_append, ih, List.length_cons]; simp only [entL, List.length_cons, List.length_nil]; omega
theorem flatOk_en {l : List Ent} : (∀ y ∈ l.map entV, ∃ xs, y = .agg xs) = True := eq_true fun y hy => by
  obtain ⟨p, _, rfl⟩ := List.mem_map.1 hy
  exact ⟨_, rfl⟩
theorem flat_en' {l : List Ent} : (l.map entV).flatMap (fun x => (cellsA x).getD []) = enC l := flat_en
theorem drop_enC {l : List Ent} {i : Nat} : (enC l).drop (i * 10) = enC (l.drop i) := by
  induction l generalizing i with
  | nil => simp [enC]
  | cons p l ih =>
    cases i with
    | zero => simp
    | succ i =>
      rw [enC_cons, show (i + 1) * 10 = (entL p).length + i * 10 by simp only [entL, List.length_cons, List.length_nil]; omega, List.drop_length_add_append, ih]
      rfl
theorem load_enC {l : List Ent} {i : Nat} (h : i < l.length) : ((enC l).drop (i * 10)).take 10 = entL l[i] := by
  rw [drop_enC, List.drop_eq_getElem_cons h, enC_cons]
  rfl
theorem cell_enC {l : List Ent} {i j : Nat} (h : i < l.length) (hj : j < 10) : (enC l).getD (i * 10 + j) .junk = (entL l[i]).getD j .junk := by
  have e : (enC l).getD (i * 10 + j) .junk = ((enC l).drop (i * 10)).getD j .junk := by simp [List.getD, List.getElem?_drop]
  rw [e, drop_enC, List.drop_eq_getElem_cons h, enC_cons]
  have hl : j < (entL l[i]).length := by simp only [entL, List.length_cons, List.length_nil]; omega
  simp [List.getD, List.getElem?_append_left hl]
theorem store_enC {l : List Ent} {i j : Nat} {v : AV} {e : Ent} (h : i < l.length) (hj : j < 10) (he : (entL l[i]).set j v = entL e) : (enC l).take (i * 10 + j) ++ v :: (enC l).drop (i * 10 + j + 1) = enC (l.set i e) := by
  have hl : i * 10 + j < (enC l).length := by rw [length_enC]; omega
  have e1 : (enC l).take (i * 10 + j) ++ v :: (enC l).drop (i * 10 + j + 1) = (enC l).set (i * 10 + j) v := by rw [List.set_eq_take_append_cons_drop, if_pos hl]
  rw [e1]
  have e2 : enC l = enC (l.take i) ++ (entL l[i] ++ enC (l.drop (i + 1))) := by
    rw [← enC_cons, ← List.drop_eq_getElem_cons h, enC_append, List.take_append_drop]
  have e3 : (enC (l.take i)).length = i * 10 := by rw [length_enC, List.length_take]; omega
  have hl : j < (entL l[i]).length := by simp only [entL, List.length_cons, List.length_nil]; omega
  rw [e2, List.set_append_right _ _ (by omega), e3, Nat.add_sub_cancel_left, List.set_append_left _ _ hl, he, ← enC_cons, enC_append, List.set_eq_take_append_cons_drop, if_pos h]
theorem Con.nilOut {P : Program} [Tabs P] {f : Nat} {ins : List AV} {es : Option Nat} (h : Con P f ins (.sc (.slice none 0 0))) : Con P f ins (.sl true es []) := by
  intro w S vs a b c
  refine (h w S vs a b c).mono ?_
  rintro e w' ⟨v, S', h1, h2, h3, h4, h5, h6, h7⟩
  simp only [Rd] at h7
  subst h7
  refine ⟨_, S', h1, h2, h3, h4, h5, rfl, ?_⟩
  simp only [Rd]
  exact ⟨none, 0, 0, [], rfl, rfl, Nat.le_refl _, by simp [RdL], by simp, fun _ => rfl, fun a h => by cases h⟩
set_option maxRecDepth 100000 in
theorem bytes_Clone_n [Tabs Tryd.prog] : Con Tryd.prog n_bytes_Clone [.sl true none []] (.sc (.slice none 0 0)) := by
  refine Con.of' mix Tryd.func43 rfl Tryd.ntmps43 e_bytes_Clone r_bytes_Clone (by simp) rfl rfl ?_
  unfold s_bytes_Clone
  repeat (first | refine wA ?_ | refine wB ?_ | refine wC rfl ?_ | refine wD rfl ?_ | refine wE ?_ | refine wF (by omega) ?_ | ((first | refine wG ?_ | refine wH ?_ | refine wI ?_ | refine wJ ?_ | refine wK ?_ | refine wL ?_); simp (disch := omega) only [wP, wZ, undef, UInt8.reduceToNat, Nat.reduceOr, Nat.reduceAnd, Nat.reduceXor, Nat.reduceDiv, if_pos, if_neg, aStore, frz, AV.flat, ↓reduceIte, ne_eq, reduceCtorEq, Int.reduceToNat, Nat.reduceEqDiff, Nat.reduceAdd, Nat.reduceSub, Nat.reduceMul, Int.reduceAdd, Int.reduceMul, Int.reduceSub, Int.reduceLT, Int.reduceLE, Int.reduceEq, Int.reduceNe, Nat.reduceLeDiff, Nat.reduceLT, Int.reduceNeg, Nat.reducePow, Nat.reduceMod, ByteArray.size]))
set_option maxRecDepth 100000 in
theorem bytes_Clone_c [Tabs Tryd.prog] (l : List UInt8) (hl : l.length ≤ 10000000) : Con Tryd.prog n_bytes_Clone [.sl false none (l.map u8)] (.sl false none (l.map u8)) := by
  refine Con.of' mix Tryd.func43 rfl Tryd.ntmps43 e_bytes_Clone r_bytes_Clone (by simp) (by simp only [AV.free, AV.free.freeL, free_u8, Bool.and_self]) (by simp only [AV.free, free_u8]) ?_
  unfold s_bytes_Clone
  repeat (first | refine wA ?_ | refine wB ?_ | refine wC rfl ?_ | refine wD rfl ?_ | refine wE ?_ | refine wF (by omega) ?_ | ((first | refine wG ?_ | refine wH ?_ | refine wI ?_ | refine wJ ?_ | refine wK ?_ | refine wL ?_); simp (disch := omega) only [wP, wZ, undef, UInt8.reduceToNat, Nat.reduceOr, Nat.reduceAnd, Nat.reduceXor, Nat.reduceDiv, if_pos, if_neg, aStore, frz, AV.flat, ↓reduceIte, ne_eq, reduceCtorEq, Int.reduceToNat, Nat.reduceEqDiff, Nat.reduceAdd, Nat.reduceSub, Nat.reduceMul, Int.reduceAdd, Int.reduceMul, Int.reduceSub, Int.reduceLT, Int.reduceLE, Int.reduceEq, Int.reduceNe, Nat.reduceLeDiff, Nat.reduceLT, Int.reduceNeg, Nat.reducePow, Nat.reduceMod, ByteArray.size, List.length_map]))
theorem bytes_Clone_a [Tabs Tryd.prog] (nl : Bool) (l : List UInt8) (hnl : nl = true → l = []) (hl : l.length ≤ 10000000) : Con Tryd.prog n_bytes_Clone [.sl nl none (l.map u8)] (.sl nl none (l.map u8)) := by
  cases nl
  · exact bytes_Clone_c l hl
  · obtain rfl := hnl rfl
    exact Con.nilOut bytes_Clone_n
set_option maxRecDepth 100000 in
theorem slices_CloneE_h [Tabs Tryd.prog] (l : List Ent) (hl : l.length ≤ 1000000) : HCon Tryd.prog n_slices_Cloneapi_Entryapi_Entry [.sl false (some 10) (l.map entV)] [] (.own 5 2 (some 10) 0 l.length) [(5, 2, .row false (enC l))] 3 := by
  refine HCon.of' mix Tryd.func42 rfl Tryd.ntmps42 e_slices_Cloneapi_Entryapi_Entry r_slices_Cloneapi_Entryapi_Entry (by simp) ⟨by simp only [AV.gl]; exact glL_of_free _ _ free_ents, trivial⟩ (by simp) ?_
  unfold s_slices_Cloneapi_Entryapi_Entry
  repeat (first | refine wA ?_ | refine wB ?_ | refine wC rfl ?_ | refine wD rfl ?_ | refine wE ?_ | refine wF (by omega) ?_ | ((first | refine wG ?_ | refine wH ?_ | refine wI ?_ | refine wJ ?_ | refine wK ?_ | refine wL ?_); simp (disch := omega) only [wP, wZ, undef, UInt8.reduceToNat, Nat.reduceOr, Nat.reduceAnd, Nat.reduceXor, Nat.reduceDiv, if_pos, if_neg, aStore, frz, AV.flat, ↓reduceIte, ne_eq, reduceCtorEq, Int.reduceToNat, Nat.reduceEqDiff, Nat.reduceAdd, Nat.reduceSub, Nat.reduceMul, Int.reduceAdd, Int.reduceMul, Int.reduceSub, Int.reduceLT, Int.reduceLE, Int.reduceEq, Int.reduceNe, Nat.reduceLeDiff, Nat.reduceLT, Int.reduceNeg, Nat.reducePow, Nat.reduceMod, ByteArray.size, List.length_map, flat_en', flatOk_en, length_enC]))
  done
theorem slices_CloneE_n [Tabs Tryd.prog] : Con Tryd.prog n_slices_Cloneapi_Entryapi_Entry [.sl true (some 10) []] (.sc (.slice none 0 0)) := by
  refine Con.of' mix Tryd.func42 rfl Tryd.ntmps42 e_slices_Cloneapi_Entryapi_Entry r_slices_Cloneapi_Entryapi_Entry (by simp) rfl rfl ?_
  unfold s_slices_Cloneapi_Entryapi_Entry
  repeat (first | refine wA ?_ | refine wB ?_ | refine wC rfl ?_ | refine wD rfl ?_ | refine wE ?_ | refine wF (by omega) ?_ | ((first | refine wG ?_ | refine wH ?_ | refine wI ?_ | refine wJ ?_ | refine wK ?_ | refine wL ?_); simp (disch := omega) only [wP, wZ, undef, UInt8.reduceToNat, Nat.reduceOr, Nat.reduceAnd, Nat.reduceXor, Nat.reduceDiv, if_pos, if_neg, aStore, frz, AV.flat, ↓reduceIte, ne_eq, reduceCtorEq, Int.reduceToNat, Nat.reduceEqDiff, Nat.reduceAdd, Nat.reduceSub, Nat.reduceMul, Int.reduceAdd, Int.reduceMul, Int.reduceSub, Int.reduceLT, Int.reduceLE, Int.reduceEq, Int.reduceNe, Nat.reduceLeDiff, Nat.reduceLT, Int.reduceNeg, Nat.reducePow, Nat.reduceMod, ByteArray.size]))
def nlOk (l : List Ent) : Prop := ∀ e ∈ l, e.nl = true → e.data = []
theorem renL_ents {ρ : Nat → Nat → Nat × Nat} {l : List Ent} : ren.renL ρ (l.map entV) = l.map entV := renL_free ρ _ free_ents
theorem renL_enC {ρ : Nat → Nat → Nat × Nat} {l : List Ent} : ren.renL ρ (enC l) = enC l := renL_free ρ _ free_enC
theorem set_self {l : List Ent} {i : Nat} (h : i < l.length) : l.set i l[i] = l := by simp
set_option maxHeartbeats 1000000 in
set_option maxRecDepth 100000 in
theorem Copy_h [Tabs Tryd.prog] (l : List Ent) (hl : l.length ≤ 1000000) (hn : nlOk l) (hs : ∀ e ∈ l, e.data.length ≤ 10000000) : HCon Tryd.prog n_entry_Copy [.sl false (some 10) (l.map entV)] [] (.own 11 3 (some 10) 0 l.length) [(11, 3, .row false (enC l))] 4 := by
  refine HCon.of' mix Tryd.func23 rfl Tryd.ntmps23 e_entry_Copy r_entry_Copy (by simp) ⟨by simp only [AV.gl]; exact glL_of_free _ _ free_ents, trivial⟩ (by simp) ?_
  unfold s_entry_Copy
  repeat (first | refine wA ?_ | refine wB ?_ | refine wC rfl ?_ | refine wD rfl ?_ | refine wE ?_ | refine wF (by omega) ?_ | ((first | refine wG ?_ | refine wH ?_ | refine wI ?_ | refine wJ ?_ | refine wK ?_ | refine wL ?_); simp (disch := omega) only [wP, wZ, undef, UInt8.reduceToNat, Nat.reduceOr, Nat.reduceAnd, Nat.reduceXor, Nat.reduceDiv, if_pos, if_neg, aStore, frz, AV.flat, ↓reduceIte, ne_eq, reduceCtorEq, Int.reduceToNat, Nat.reduceEqDiff, Nat.reduceAdd, Nat.reduceSub, Nat.reduceMul, Int.reduceAdd, Int.reduceMul, Int.reduceSub, Int.reduceLT, Int.reduceLE, Int.reduceEq, Int.reduceNe, Nat.reduceLeDiff, Nat.reduceLT, Int.reduceNeg, Nat.reducePow, Nat.reduceMod, ByteArray.size]))
  refine goC_h [] 6 (slices_CloneE_h l hl) (by simp) (by simp) (by simp [handOk]) (by simp only [ren.renL, ren, renL_ents]) ?_
  repeat (first | refine wA ?_ | refine wB ?_ | refine wC rfl ?_ | refine wD rfl ?_ | refine wE ?_ | refine wF (by omega) ?_ | ((first | refine wG ?_ | refine wH ?_ | refine wI ?_ | refine wJ ?_ | refine wK ?_ | refine wL ?_); simp (disch := omega) only [wP, wZ, undef, UInt8.reduceToNat, Nat.reduceOr, Nat.reduceAnd, Nat.reduceXor, Nat.reduceDiv, if_pos, if_neg, aStore, frz, AV.flat, ↓reduceIte, ne_eq, reduceCtorEq, Int.reduceToNat, Nat.reduceEqDiff, Nat.reduceAdd, Nat.reduceSub, Nat.reduceMul, Int.reduceAdd, Int.reduceMul, Int.reduceSub, Int.reduceLT, Int.reduceLE, Int.reduceEq, Int.reduceNe, Nat.reduceLeDiff, Nat.reduceLT, Int.reduceNeg, Nat.reducePow, Nat.reduceMod, ByteArray.size, renL_enC]))
  refine SWp.loop (α := Nat) (fun k => mk 24 4 [(3, .own 11 3 (some 10) 0 l.length), (8, int l.length), (9, int k)] [(11, 3, .row false (enC l))])
    (fun k => k ≤ l.length) (fun k => l.length - k) 0 (Nat.zero_le _) (le_mk rfl ?_ ?_ ?_) ?_
  · exact Nat.le_refl _
  iterate 2 (case _ => simp (disch := omega) only [wP, wZ, undef, UInt8.reduceToNat, Nat.reduceOr, Nat.reduceAnd, Nat.reduceXor, Nat.reduceDiv, if_pos, if_neg, aStore, frz, AV.flat, ↓reduceIte, ne_eq, reduceCtorEq, Int.reduceToNat, Nat.reduceEqDiff, Nat.reduceAdd, Nat.reduceSub, Nat.reduceMul, Int.reduceAdd, Int.reduceMul, Int.reduceSub, Int.reduceLT, Int.reduceLE, Int.reduceEq, Int.reduceNe, Nat.reduceLeDiff, Nat.reduceLT, Int.reduceNeg, Nat.reducePow, Nat.reduceMod, ByteArray.size, renL_enC])
  rintro k hk -
  by_cases hk' : k < l.length
  case neg =>
    have d : decide ((k : Int) < (l.length : Int)) = false := decide_eq_false (by omega)
    repeat (first | refine wA ?_ | refine wB ?_ | refine wC rfl ?_ | refine wD rfl ?_ | refine wE ?_ | refine wF (by omega) ?_ | ((first | refine wG ?_ | refine wH ?_ | refine wI ?_ | refine wJ ?_ | refine wK ?_ | refine wL ?_); simp (disch := omega) only [wP, wZ, undef, UInt8.reduceToNat, Nat.reduceOr, Nat.reduceAnd, Nat.reduceXor, Nat.reduceDiv, if_pos, if_neg, aStore, frz, AV.flat, ↓reduceIte, ne_eq, reduceCtorEq, Int.reduceToNat, Nat.reduceEqDiff, Nat.reduceAdd, Nat.reduceSub, Nat.reduceMul, Int.reduceAdd, Int.reduceMul, Int.reduceSub, Int.reduceLT, Int.reduceLE, Int.reduceEq, Int.reduceNe, Nat.reduceLeDiff, Nat.reduceLT, Int.reduceNeg, Nat.reducePow, Nat.reduceMod, ByteArray.size, d]))
    done
  have d : decide ((k : Int) < (l.length : Int)) = true := decide_eq_true (by omega)
  have hc := cell_enC (l := l) (i := k) (j := 9) hk' (by omega)
  have hst := store_enC (l := l) (i := k) (j := 9) (v := .sl l[k].nl none (l[k].data.map u8)) (e := l[k]) hk' (by omega) rfl
  rw [set_self hk'] at hst
  have hc' : (enC l).getD (k * 10 + 9) .junk = .sl l[k].nl none (l[k].data.map u8) := hc
  repeat (first | refine wA ?_ | refine wB ?_ | refine wC rfl ?_ | refine wD rfl ?_ | refine wE ?_ | refine wF (by omega) ?_ | ((first | refine wG ?_ | refine wH ?_ | refine wI ?_ | refine wJ ?_ | refine wK ?_ | refine wL ?_); simp (disch := omega) only [wP, wZ, undef, UInt8.reduceToNat, Nat.reduceOr, Nat.reduceAnd, Nat.reduceXor, Nat.reduceDiv, if_pos, if_neg, aStore, frz, AV.flat, ↓reduceIte, ne_eq, reduceCtorEq, Int.reduceToNat, Nat.reduceEqDiff, Nat.reduceAdd, Nat.reduceSub, Nat.reduceMul, Int.reduceAdd, Int.reduceMul, Int.reduceSub, Int.reduceLT, Int.reduceLE, Int.reduceEq, Int.reduceNe, Nat.reduceLeDiff, Nat.reduceLT, Int.reduceNeg, Nat.reducePow, Nat.reduceMod, ByteArray.size, d, hc', length_enC]))
  refine goC_p _ (.inl ⟨by simp only [AV.free, AV.free.freeL, free_u8, Bool.and_self], bytes_Clone_a l[k].nl l[k].data (hn _ (List.getElem_mem hk')) (hs _ (List.getElem_mem hk'))⟩) ?_
  repeat (first | refine wA ?_ | refine wB ?_ | refine wC rfl ?_ | refine wD rfl ?_ | refine wE ?_ | refine wF (by omega) ?_ | ((first | refine wG ?_ | refine wH ?_ | refine wI ?_ | refine wJ ?_ | refine wK ?_ | refine wL ?_); simp (disch := omega) only [wP, wZ, undef, UInt8.reduceToNat, Nat.reduceOr, Nat.reduceAnd, Nat.reduceXor, Nat.reduceDiv, if_pos, if_neg, aStore, frz, AV.flat, ↓reduceIte, ne_eq, reduceCtorEq, Int.reduceToNat, Nat.reduceEqDiff, Nat.reduceAdd, Nat.reduceSub, Nat.reduceMul, Int.reduceAdd, Int.reduceMul, Int.reduceSub, Int.reduceLT, Int.reduceLE, Int.reduceEq, Int.reduceNe, Nat.reduceLeDiff, Nat.reduceLT, Int.reduceNeg, Nat.reducePow, Nat.reduceMod, ByteArray.size, hst, length_enC]))
  refine At.of (k + 1) (by omega) (by omega) rfl rfl (Nat.le_refl _) ?_ ?_
  iterate 2 (case _ => simp (disch := omega) only [wP, wZ, undef, UInt8.reduceToNat, Nat.reduceOr, Nat.reduceAnd, Nat.reduceXor, Nat.reduceDiv, if_pos, if_neg, aStore, frz, AV.flat, ↓reduceIte, ne_eq, reduceCtorEq, Int.reduceToNat, Nat.reduceEqDiff, Nat.reduceAdd, Nat.reduceSub, Nat.reduceMul, Int.reduceAdd, Int.reduceMul, Int.reduceSub, Int.reduceLT, Int.reduceLE, Int.reduceEq, Int.reduceNe, Nat.reduceLeDiff, Nat.reduceLT, Int.reduceNeg, Nat.reducePow, Nat.reduceMod, ByteArray.size, hst])
end Go.Proofs.YtbmmdkbinlnogaaDoor.Aw
namespace Go.Proofs.YtbmmdkbinlnogaaDoor.Aw
open Go
set_option linter.unusedSimpArgs false
set_option linter.unusedVariables false
def filV (e : Ent) : List UInt8 × Bool := if e.kind = 1 then (e.path, true) else if e.kind = 4 then (e.link, true) else ([], false)
set_option maxHeartbeats 1000000 in
set_option maxRecDepth 100000 in
theorem fileOf_c [Tabs Tryd.prog] (e : Ent) : Con Tryd.prog n_entry_fileOf [entV e] (.tup [str (filV e).1, boo (filV e).2]) := by
  refine Con.of' mix Tryd.func59 rfl Tryd.ntmps59 e_entry_fileOf r_entry_fileOf (by simp) free_entV rfl ?_
  unfold s_entry_fileOf
  obtain ⟨Z, hZ⟩ : ∃ Z, Z = filV e := ⟨_, rfl⟩
  rw [← hZ]
  rw [filV] at hZ
  by_cases h1 : e.kind = 1
  · have d1 : decide (e.kind = 1) = true := decide_eq_true h1
    rw [if_pos h1] at hZ
    subst hZ
    repeat (first | refine wA ?_ | refine wB ?_ | refine wC rfl ?_ | refine wD rfl ?_ | refine wE ?_ | refine wF (by omega) ?_ | ((first | refine wG ?_ | refine wH ?_ | refine wI ?_ | refine wJ ?_ | refine wK ?_ | refine wL ?_); simp (disch := omega) only [wP, wZ, undef, UInt8.reduceToNat, Nat.reduceOr, Nat.reduceAnd, Nat.reduceXor, Nat.reduceDiv, if_pos, if_neg, aStore, frz, AV.flat, ↓reduceIte, ne_eq, reduceCtorEq, Int.reduceToNat, Nat.reduceEqDiff, Nat.reduceAdd, Nat.reduceSub, Nat.reduceMul, Int.reduceAdd, Int.reduceMul, Int.reduceSub, Int.reduceLT, Int.reduceLE, Int.reduceEq, Int.reduceNe, Nat.reduceLeDiff, Nat.reduceLT, Int.reduceNeg, Nat.reducePow, Nat.reduceMod, ByteArray.size, boo, entV, entL, d1]))
  have d1 : decide (e.kind = 1) = false := decide_eq_false h1
  rw [if_neg h1] at hZ
  by_cases h4 : e.kind = 4
  · have d4 : decide (e.kind = 4) = true := decide_eq_true h4
    rw [if_pos h4] at hZ
    subst hZ
    repeat (first | refine wA ?_ | refine wB ?_ | refine wC rfl ?_ | refine wD rfl ?_ | refine wE ?_ | refine wF (by omega) ?_ | ((first | refine wG ?_ | refine wH ?_ | refine wI ?_ | refine wJ ?_ | refine wK ?_ | refine wL ?_); simp (disch := omega) only [wP, wZ, undef, UInt8.reduceToNat, Nat.reduceOr, Nat.reduceAnd, Nat.reduceXor, Nat.reduceDiv, if_pos, if_neg, aStore, frz, AV.flat, ↓reduceIte, ne_eq, reduceCtorEq, Int.reduceToNat, Nat.reduceEqDiff, Nat.reduceAdd, Nat.reduceSub, Nat.reduceMul, Int.reduceAdd, Int.reduceMul, Int.reduceSub, Int.reduceLT, Int.reduceLE, Int.reduceEq, Int.reduceNe, Nat.reduceLeDiff, Nat.reduceLT, Int.reduceNeg, Nat.reducePow, Nat.reduceMod, ByteArray.size, boo, entV, entL, d1, d4]))
  · have d4 : decide (e.kind = 4) = false := decide_eq_false h4
    rw [if_neg h4] at hZ
    subst hZ
    repeat (first | refine wA ?_ | refine wB ?_ | refine wC rfl ?_ | refine wD rfl ?_ | refine wE ?_ | refine wF (by omega) ?_ | ((first | refine wG ?_ | refine wH ?_ | refine wI ?_ | refine wJ ?_ | refine wK ?_ | refine wL ?_); simp (disch := omega) only [wP, wZ, undef, UInt8.reduceToNat, Nat.reduceOr, Nat.reduceAnd, Nat.reduceXor, Nat.reduceDiv, if_pos, if_neg, aStore, frz, AV.flat, ↓reduceIte, ne_eq, reduceCtorEq, Int.reduceToNat, Nat.reduceEqDiff, Nat.reduceAdd, Nat.reduceSub, Nat.reduceMul, Int.reduceAdd, Int.reduceMul, Int.reduceSub, Int.reduceLT, Int.reduceLE, Int.reduceEq, Int.reduceNe, Nat.reduceLeDiff, Nat.reduceLT, Int.reduceNeg, Nat.reducePow, Nat.reduceMod, ByteArray.size, boo, entV, entL, d1, d4]))
end Go.Proofs.YtbmmdkbinlnogaaDoor.Aw
namespace Go.Proofs.YtbmmdkbinlnogaaDoor.Aw
open Go
set_option linter.unusedSimpArgs false
set_option linter.unusedVariables false
def wgt (m : Nat) (e : Ent) : Nat := min e.path.length (m + 1) + min e.link.length (m + 1) + min e.owner.length (m + 1) + min e.group.length (m + 1) + min e.data.length (m + 1)
def lrun (m : Nat) : List Ent → Nat → Nat
  | [], n => n
  | e :: l, n => if n ≤ m then lrun m l (n + wgt m e) else n
def lightV (l : List Ent) (c m : Nat) : Bool := decide (l.length ≤ c) && decide (lrun m l 0 ≤ m)
theorem lrun_ge {m : Nat} : ∀ {l : List Ent} {n : Nat}, n ≤ lrun m l n
  | [], _ => Nat.le_refl _
  | e :: l, n => by
    rw [lrun]
    split
    · exact Nat.le_trans (Nat.le_add_right _ _) lrun_ge
    · exact Nat.le_refl _
theorem lrun_all {m : Nat} : ∀ {l : List Ent} {n : Nat}, lrun m l n ≤ m → ∀ e ∈ l, wgt m e ≤ m
  | [], _, _, e, he => by cases he
  | x :: l, n, h, e, he => by
    rw [lrun] at h
    have h0 : n ≤ m := by
      apply Decidable.byContradiction
      intro h1
      rw [if_neg h1] at h
      omega
    rw [if_pos h0] at h
    rcases List.mem_cons.1 he with rfl | he
    · have := lrun_ge (m := m) (l := l) (n := n + wgt m e)
      omega
    · exact lrun_all h e he
theorem wgt_le {m : Nat} {e : Ent} (h : wgt m e ≤ m) : e.path.length ≤ m ∧ e.link.length ≤ m ∧ e.owner.length ≤ m ∧ e.group.length ≤ m ∧ e.data.length ≤ m := by
  unfold wgt at h
  omega
theorem lrun_step {m : Nat} {l : List Ent} {k n : Nat} (hk : k < l.length) (hn : n ≤ m) : lrun m (l.drop k) n = lrun m (l.drop (k + 1)) (n + wgt m l[k]) := by
  rw [List.drop_eq_getElem_cons hk, lrun, if_pos hn]
theorem lrun_out {m : Nat} {l : List Ent} {n : Nat} (hn : ¬ n ≤ m) : lrun m l n = n := by
  cases l with
  | nil => rfl
  | cons e l => rw [lrun, if_neg hn]
def entB (e : Ent) : Prop := e.path.length ≤ 9223372036854775807 ∧ e.link.length ≤ 9223372036854775807 ∧ e.owner.length ≤ 9223372036854775807 ∧ e.group.length ≤ 9223372036854775807 ∧ e.data.length ≤ 9223372036854775807
set_option maxHeartbeats 4000000 in
set_option maxRecDepth 100000 in
theorem ref_Light_c [Tabs Tryd.prog] (nl : Bool) (l : List Ent) (hl : l.length ≤ 9223372036854775807) (hs : ∀ e ∈ l, entB e) (c m : Nat) (hc : c ≤ 100000) (hm : m ≤ 100000) : Con Tryd.prog n_drayageref07_Light [.sl nl (some 10) (l.map entV), int c, int m] (boo (lightV l c m)) := by
  refine Con.of' mix Tryd.func14 rfl Tryd.ntmps14 e_drayageref07_Light r_drayageref07_Light (by simp) (by simp only [AV.free, AV.free.freeL, free_ents, int, Bool.and_self]) rfl ?_
  unfold s_drayageref07_Light
  obtain ⟨Z, hZ⟩ : ∃ Z, Z = lightV l c m := ⟨_, rfl⟩
  rw [← hZ]
  rw [lightV] at hZ
  by_cases h1 : l.length ≤ c
  case neg =>
    have d1 : decide ((c : Int) < (l.length : Int)) = true := decide_eq_true (by omega)
    rw [decide_eq_false h1, Bool.false_and] at hZ
    subst hZ
    repeat (first | refine wA ?_ | refine wB ?_ | refine wC rfl ?_ | refine wD rfl ?_ | refine wE ?_ | refine wF (by omega) ?_ | ((first | refine wG ?_ | refine wH ?_ | refine wI ?_ | refine wJ ?_ | refine wK ?_ | refine wL ?_); simp (disch := omega) only [wP, wZ, undef, UInt8.reduceToNat, Nat.reduceOr, Nat.reduceAnd, Nat.reduceXor, Nat.reduceDiv, if_pos, if_neg, aStore, frz, AV.flat, ↓reduceIte, ne_eq, reduceCtorEq, Int.reduceToNat, Nat.reduceEqDiff, Nat.reduceAdd, Nat.reduceSub, Nat.reduceMul, Int.reduceAdd, Int.reduceMul, Int.reduceSub, Int.reduceLT, Int.reduceLE, Int.reduceEq, Int.reduceNe, Nat.reduceLeDiff, Nat.reduceLT, Int.reduceNeg, Nat.reducePow, Nat.reduceMod, ByteArray.size, boo, d1, List.length_map]))
  have d1 : decide ((c : Int) < (l.length : Int)) = false := decide_eq_false (by omega)
  rw [decide_eq_true h1, Bool.true_and] at hZ
  repeat (first | refine wA ?_ | refine wB ?_ | refine wC rfl ?_ | refine wD rfl ?_ | refine wE ?_ | refine wF (by omega) ?_ | ((first | refine wG ?_ | refine wH ?_ | refine wI ?_ | refine wJ ?_ | refine wK ?_ | refine wL ?_); simp (disch := omega) only [wP, wZ, undef, UInt8.reduceToNat, Nat.reduceOr, Nat.reduceAnd, Nat.reduceXor, Nat.reduceDiv, if_pos, if_neg, aStore, frz, AV.flat, ↓reduceIte, ne_eq, reduceCtorEq, Int.reduceToNat, Nat.reduceEqDiff, Nat.reduceAdd, Nat.reduceSub, Nat.reduceMul, Int.reduceAdd, Int.reduceMul, Int.reduceSub, Int.reduceLT, Int.reduceLE, Int.reduceEq, Int.reduceNe, Nat.reduceLeDiff, Nat.reduceLT, Int.reduceNeg, Nat.reducePow, Nat.reduceMod, ByteArray.size, boo, d1, List.length_map]))
  refine SWp.loop (α := Nat × Nat) (fun x => mk 78 0 [(0, .sl nl (some 10) (l.map entV)), (2, int m), (7, int x.2), (8, int x.1)] [])
    (fun x => x.1 ≤ l.length ∧ x.2 ≤ 6 * m + 10 ∧ Z = decide (lrun m (l.drop x.1) x.2 ≤ m)) (fun x => l.length - x.1) (0, 0) ⟨Nat.zero_le _, Nat.zero_le _, hZ⟩ (le_mk rfl (Nat.le_refl _) ?_ ?_) ?_
  iterate 2 (case _ => simp (disch := omega) only [wP, wZ, undef, UInt8.reduceToNat, Nat.reduceOr, Nat.reduceAnd, Nat.reduceXor, Nat.reduceDiv, if_pos, if_neg, aStore, frz, AV.flat, ↓reduceIte, ne_eq, reduceCtorEq, Int.reduceToNat, Nat.reduceEqDiff, Nat.reduceAdd, Nat.reduceSub, Nat.reduceMul, Int.reduceAdd, Int.reduceMul, Int.reduceSub, Int.reduceLT, Int.reduceLE, Int.reduceEq, Int.reduceNe, Nat.reduceLeDiff, Nat.reduceLT, Int.reduceNeg, Nat.reducePow, Nat.reduceMod, ByteArray.size])
  rintro ⟨k, n⟩ ⟨hk, hn, hz⟩ -
  simp only at hk hn hz
  by_cases hk' : k < l.length
  case neg =>
    have dk : decide ((k : Int) < (l.length : Int)) = false := decide_eq_false (by omega)
    rw [List.drop_eq_nil_of_le (by omega), lrun] at hz
    subst hz
    have e : decide ((n : Int) ≤ (m : Int)) = decide (n ≤ m) := by simp
    repeat (first | refine wA ?_ | refine wB ?_ | refine wC rfl ?_ | refine wD rfl ?_ | refine wE ?_ | refine wF (by omega) ?_ | ((first | refine wG ?_ | refine wH ?_ | refine wI ?_ | refine wJ ?_ | refine wK ?_ | refine wL ?_); simp (disch := omega) only [wP, wZ, undef, UInt8.reduceToNat, Nat.reduceOr, Nat.reduceAnd, Nat.reduceXor, Nat.reduceDiv, if_pos, if_neg, aStore, frz, AV.flat, ↓reduceIte, ne_eq, reduceCtorEq, Int.reduceToNat, Nat.reduceEqDiff, Nat.reduceAdd, Nat.reduceSub, Nat.reduceMul, Int.reduceAdd, Int.reduceMul, Int.reduceSub, Int.reduceLT, Int.reduceLE, Int.reduceEq, Int.reduceNe, Nat.reduceLeDiff, Nat.reduceLT, Int.reduceNeg, Nat.reducePow, Nat.reduceMod, ByteArray.size, boo, dk, e, List.length_map]))
  have dk : decide ((k : Int) < (l.length : Int)) = true := decide_eq_true (by omega)
  by_cases hm' : n ≤ m
  case neg =>
    have dn : decide ((n : Int) ≤ (m : Int)) = false := decide_eq_false (by omega)
    rw [lrun_out hm', decide_eq_false hm'] at hz
    subst hz
    repeat (first | refine wA ?_ | refine wB ?_ | refine wC rfl ?_ | refine wD rfl ?_ | refine wE ?_ | refine wF (by omega) ?_ | ((first | refine wG ?_ | refine wH ?_ | refine wI ?_ | refine wJ ?_ | refine wK ?_ | refine wL ?_); simp (disch := omega) only [wP, wZ, undef, UInt8.reduceToNat, Nat.reduceOr, Nat.reduceAnd, Nat.reduceXor, Nat.reduceDiv, if_pos, if_neg, aStore, frz, AV.flat, ↓reduceIte, ne_eq, reduceCtorEq, Int.reduceToNat, Nat.reduceEqDiff, Nat.reduceAdd, Nat.reduceSub, Nat.reduceMul, Int.reduceAdd, Int.reduceMul, Int.reduceSub, Int.reduceLT, Int.reduceLE, Int.reduceEq, Int.reduceNe, Nat.reduceLeDiff, Nat.reduceLT, Int.reduceNeg, Nat.reducePow, Nat.reduceMod, ByteArray.size, boo, dk, dn, List.length_map]))
  have dn : decide ((n : Int) ≤ (m : Int)) = true := decide_eq_true (by omega)
  rw [lrun_step hk' hm'] at hz
  obtain ⟨x, hx⟩ : ∃ x, x = l[k] := ⟨_, rfl⟩
  have hgx := getD_ents hk'
  rw [← hx] at hgx hz
  obtain ⟨t1, t2, t3, t4, t5⟩ := hs x (by rw [hx]; exact List.getElem_mem hk')
  have hw : ((wgt m x : Nat) : Int) = min (x.path.length : Int) ((m : Int) + 1) + min (x.link.length : Int) ((m : Int) + 1) + min (x.owner.length : Int) ((m : Int) + 1) + min (x.group.length : Int) ((m : Int) + 1) + min (x.data.length : Int) ((m : Int) + 1) := by
    unfold wgt
    omega
  repeat (first | refine wA ?_ | refine wB ?_ | refine wC rfl ?_ | refine wD rfl ?_ | refine wE ?_ | refine wF (by omega) ?_ | ((first | refine wG ?_ | refine wH ?_ | refine wI ?_ | refine wJ ?_ | refine wK ?_ | refine wL ?_); simp (disch := omega) only [wP, wZ, undef, UInt8.reduceToNat, Nat.reduceOr, Nat.reduceAnd, Nat.reduceXor, Nat.reduceDiv, if_pos, if_neg, aStore, frz, AV.flat, ↓reduceIte, ne_eq, reduceCtorEq, Int.reduceToNat, Nat.reduceEqDiff, Nat.reduceAdd, Nat.reduceSub, Nat.reduceMul, Int.reduceAdd, Int.reduceMul, Int.reduceSub, Int.reduceLT, Int.reduceLE, Int.reduceEq, Int.reduceNe, Nat.reduceLeDiff, Nat.reduceLT, Int.reduceNeg, Nat.reducePow, Nat.reduceMod, ByteArray.size, boo, dk, dn, hgx, entV, entL, List.length_map]))
  have hwl : wgt m x ≤ 5 * m + 5 := by unfold wgt; omega
  refine At.of (k + 1, n + wgt m x) ⟨by simp only; omega, by simp only; omega, hz⟩ (by simp only; omega) rfl rfl (Nat.le_refl _) ?_ ?_
  · obtain ⟨q, hq⟩ : ∃ q, q = n + wgt m x := ⟨_, rfl⟩
    have hqi : (q : Int) = (n : Int) + (wgt m x : Nat) := by omega
    rw [← hq]
    rw [hw] at hqi
    simp (disch := omega) only [wP, wZ, undef, UInt8.reduceToNat, Nat.reduceOr, Nat.reduceAnd, Nat.reduceXor, Nat.reduceDiv, if_pos, if_neg, aStore, frz, AV.flat, ↓reduceIte, ne_eq, reduceCtorEq, Int.reduceToNat, Nat.reduceEqDiff, Nat.reduceAdd, Nat.reduceSub, Nat.reduceMul, Int.reduceAdd, Int.reduceMul, Int.reduceSub, Int.reduceLT, Int.reduceLE, Int.reduceEq, Int.reduceNe, Nat.reduceLeDiff, Nat.reduceLT, Int.reduceNeg, Nat.reducePow, Nat.reduceMod, ByteArray.size, hqi]
    omega
  · simp (disch := omega) only [wP, wZ, undef, UInt8.reduceToNat, Nat.reduceOr, Nat.reduceAnd, Nat.reduceXor, Nat.reduceDiv, if_pos, if_neg, aStore, frz, AV.flat, ↓reduceIte, ne_eq, reduceCtorEq, Int.reduceToNat, Nat.reduceEqDiff, Nat.reduceAdd, Nat.reduceSub, Nat.reduceMul, Int.reduceAdd, Int.reduceMul, Int.reduceSub, Int.reduceLT, Int.reduceLE, Int.reduceEq, Int.reduceNe, Nat.reduceLeDiff, Nat.reduceLT, Int.reduceNeg, Nat.reducePow, Nat.reduceMod, ByteArray.size]
end Go.Proofs.YtbmmdkbinlnogaaDoor.Aw
namespace Go.Proofs.YtbmmdkbinlnogaaDoor.Aw
open Go
set_option linter.unusedSimpArgs false
set_option linter.unusedVariables false
def samB (a b : Ent) : Bool := decide (a.path = b.path) && (decide (a.kind = b.kind) && (alikeB a b && (decide (a.link = b.link) && decide (a.data = b.data))))
def sameL : List Ent → List Ent → Bool
  | [], [] => true
  | a :: l, b :: r => samB a b && sameL l r
  | _, _ => false
theorem sameL_len : ∀ {l r : List Ent}, l.length ≠ r.length → sameL l r = false
  | [], [], h => absurd rfl h
  | [], _ :: _, _ => rfl
  | _ :: _, [], _ => rfl
  | a :: l, b :: r, h => by rw [sameL, sameL_len (fun e => h (by simp [e])), Bool.and_false]
theorem sameL_step {l r : List Ent} {k : Nat} (hk : k < l.length) (hr : k < r.length) : sameL (l.drop k) (r.drop k) = (samB l[k] r[k] && sameL (l.drop (k + 1)) (r.drop (k + 1))) := by
  rw [List.drop_eq_getElem_cons hk, List.drop_eq_getElem_cons hr, sameL]
set_option maxHeartbeats 4000000 in
set_option maxRecDepth 100000 in
theorem ref_Same_c [Tabs Tryd.prog] (nl nr : Bool) (l r : List Ent) (hl : l.length ≤ 1000000) (hr : r.length ≤ 1000000) (hs : ∀ e ∈ l, e.data.length ≤ 10000000) (hs2 : ∀ e ∈ r, e.data.length ≤ 10000000) : Con Tryd.prog n_drayageref07_Same [.sl nl (some 10) (l.map entV), .sl nr (some 10) (r.map entV)] (boo (sameL l r)) := by
  refine Con.of' mix Tryd.func21 rfl Tryd.ntmps21 e_drayageref07_Same r_drayageref07_Same (by simp) (by simp only [AV.free, AV.free.freeL, free_ents, Bool.and_self]) rfl ?_
  unfold s_drayageref07_Same
  obtain ⟨Z, hZ⟩ : ∃ Z, Z = sameL l r := ⟨_, rfl⟩
  rw [← hZ]
  by_cases h1 : l.length = r.length
  case neg =>
    have d1 : decide ((l.length : Int) = (r.length : Int)) = false := decide_eq_false (by omega)
    rw [sameL_len h1] at hZ
    subst hZ
    repeat (first | refine wA ?_ | refine wB ?_ | refine wC rfl ?_ | refine wD rfl ?_ | refine wE ?_ | refine wF (by omega) ?_ | ((first | refine wG ?_ | refine wH ?_ | refine wI ?_ | refine wJ ?_ | refine wK ?_ | refine wL ?_); simp (disch := omega) only [wP, wZ, undef, UInt8.reduceToNat, Nat.reduceOr, Nat.reduceAnd, Nat.reduceXor, Nat.reduceDiv, if_pos, if_neg, aStore, frz, AV.flat, ↓reduceIte, ne_eq, reduceCtorEq, Int.reduceToNat, Nat.reduceEqDiff, Nat.reduceAdd, Nat.reduceSub, Nat.reduceMul, Int.reduceAdd, Int.reduceMul, Int.reduceSub, Int.reduceLT, Int.reduceLE, Int.reduceEq, Int.reduceNe, Nat.reduceLeDiff, Nat.reduceLT, Int.reduceNeg, Nat.reducePow, Nat.reduceMod, ByteArray.size, boo, d1, List.length_map]))
  have d1 : decide ((l.length : Int) = (r.length : Int)) = true := decide_eq_true (by omega)
  repeat (first | refine wA ?_ | refine wB ?_ | refine wC rfl ?_ | refine wD rfl ?_ | refine wE ?_ | refine wF (by omega) ?_ | ((first | refine wG ?_ | refine wH ?_ | refine wI ?_ | refine wJ ?_ | refine wK ?_ | refine wL ?_); simp (disch := omega) only [wP, wZ, undef, UInt8.reduceToNat, Nat.reduceOr, Nat.reduceAnd, Nat.reduceXor, Nat.reduceDiv, if_pos, if_neg, aStore, frz, AV.flat, ↓reduceIte, ne_eq, reduceCtorEq, Int.reduceToNat, Nat.reduceEqDiff, Nat.reduceAdd, Nat.reduceSub, Nat.reduceMul, Int.reduceAdd, Int.reduceMul, Int.reduceSub, Int.reduceLT, Int.reduceLE, Int.reduceEq, Int.reduceNe, Nat.reduceLeDiff, Nat.reduceLT, Int.reduceNeg, Nat.reducePow, Nat.reduceMod, ByteArray.size, boo, d1, List.length_map]))
  refine SWp.loop (α := Nat) (fun k => mk 81 0 [(0, .sl nl (some 10) (l.map entV)), (1, .sl nr (some 10) (r.map entV)), (5, int k)] [])
    (fun k => k ≤ l.length ∧ Z = sameL (l.drop k) (r.drop k)) (fun k => l.length - k) 0 ⟨Nat.zero_le _, hZ⟩ (le_mk rfl (Nat.le_refl _) ?_ ?_) ?_
  iterate 2 (case _ => simp (disch := omega) only [wP, wZ, undef, UInt8.reduceToNat, Nat.reduceOr, Nat.reduceAnd, Nat.reduceXor, Nat.reduceDiv, if_pos, if_neg, aStore, frz, AV.flat, ↓reduceIte, ne_eq, reduceCtorEq, Int.reduceToNat, Nat.reduceEqDiff, Nat.reduceAdd, Nat.reduceSub, Nat.reduceMul, Int.reduceAdd, Int.reduceMul, Int.reduceSub, Int.reduceLT, Int.reduceLE, Int.reduceEq, Int.reduceNe, Nat.reduceLeDiff, Nat.reduceLT, Int.reduceNeg, Nat.reducePow, Nat.reduceMod, ByteArray.size])
  rintro k ⟨hk, hz⟩ -
  by_cases hk' : k < l.length
  case neg =>
    have dk : decide ((k : Int) < (l.length : Int)) = false := decide_eq_false (by omega)
    rw [List.drop_eq_nil_of_le (by omega), List.drop_eq_nil_of_le (by omega)] at hz
    have : Z = true := hz
    subst this
    repeat (first | refine wA ?_ | refine wB ?_ | refine wC rfl ?_ | refine wD rfl ?_ | refine wE ?_ | refine wF (by omega) ?_ | ((first | refine wG ?_ | refine wH ?_ | refine wI ?_ | refine wJ ?_ | refine wK ?_ | refine wL ?_); simp (disch := omega) only [wP, wZ, undef, UInt8.reduceToNat, Nat.reduceOr, Nat.reduceAnd, Nat.reduceXor, Nat.reduceDiv, if_pos, if_neg, aStore, frz, AV.flat, ↓reduceIte, ne_eq, reduceCtorEq, Int.reduceToNat, Nat.reduceEqDiff, Nat.reduceAdd, Nat.reduceSub, Nat.reduceMul, Int.reduceAdd, Int.reduceMul, Int.reduceSub, Int.reduceLT, Int.reduceLE, Int.reduceEq, Int.reduceNe, Nat.reduceLeDiff, Nat.reduceLT, Int.reduceNeg, Nat.reducePow, Nat.reduceMod, ByteArray.size, boo, dk, List.length_map]))
  have dk : decide ((k : Int) < (l.length : Int)) = true := decide_eq_true (by omega)
  have hk2 : k < r.length := by omega
  rw [sameL_step hk' hk2] at hz
  have hg1 := getD_ents hk'
  have hg2 := getD_ents hk2
  have t1 := hs l[k] (List.getElem_mem hk')
  have t2 := hs2 r[k] (List.getElem_mem hk2)
  obtain ⟨a, ha⟩ : ∃ a, a = l[k] := ⟨_, rfl⟩
  obtain ⟨b, hb⟩ : ∃ b, b = r[k] := ⟨_, rfl⟩
  rw [← ha] at hg1 hz t1
  rw [← hb] at hg2 hz t2
  rw [samB] at hz
  by_cases c1 : a.path = b.path
  case neg =>
    have v1 : decide (a.path = b.path) = false := decide_eq_false c1
    rw [v1, Bool.false_and, Bool.false_and] at hz
    subst hz
    repeat (first | refine wA ?_ | refine wB ?_ | refine wC rfl ?_ | refine wD rfl ?_ | refine wE ?_ | refine wF (by omega) ?_ | ((first | refine wG ?_ | refine wH ?_ | refine wI ?_ | refine wJ ?_ | refine wK ?_ | refine wL ?_); simp (disch := omega) only [wP, wZ, undef, UInt8.reduceToNat, Nat.reduceOr, Nat.reduceAnd, Nat.reduceXor, Nat.reduceDiv, if_pos, if_neg, aStore, frz, AV.flat, ↓reduceIte, ne_eq, reduceCtorEq, Int.reduceToNat, Nat.reduceEqDiff, Nat.reduceAdd, Nat.reduceSub, Nat.reduceMul, Int.reduceAdd, Int.reduceMul, Int.reduceSub, Int.reduceLT, Int.reduceLE, Int.reduceEq, Int.reduceNe, Nat.reduceLeDiff, Nat.reduceLT, Int.reduceNeg, Nat.reducePow, Nat.reduceMod, ByteArray.size, boo, dk, hg1, hg2, entV, entL, v1, List.length_map]))
  have v1 : decide (a.path = b.path) = true := decide_eq_true c1
  rw [v1, Bool.true_and] at hz
  by_cases c2 : a.kind = b.kind
  case neg =>
    have v2 : decide (a.kind = b.kind) = false := decide_eq_false c2
    rw [v2, Bool.false_and, Bool.false_and] at hz
    subst hz
    repeat (first | refine wA ?_ | refine wB ?_ | refine wC rfl ?_ | refine wD rfl ?_ | refine wE ?_ | refine wF (by omega) ?_ | ((first | refine wG ?_ | refine wH ?_ | refine wI ?_ | refine wJ ?_ | refine wK ?_ | refine wL ?_); simp (disch := omega) only [wP, wZ, undef, UInt8.reduceToNat, Nat.reduceOr, Nat.reduceAnd, Nat.reduceXor, Nat.reduceDiv, if_pos, if_neg, aStore, frz, AV.flat, ↓reduceIte, ne_eq, reduceCtorEq, Int.reduceToNat, Nat.reduceEqDiff, Nat.reduceAdd, Nat.reduceSub, Nat.reduceMul, Int.reduceAdd, Int.reduceMul, Int.reduceSub, Int.reduceLT, Int.reduceLE, Int.reduceEq, Int.reduceNe, Nat.reduceLeDiff, Nat.reduceLT, Int.reduceNeg, Nat.reducePow, Nat.reduceMod, ByteArray.size, boo, dk, hg1, hg2, entV, entL, v1, v2, List.length_map]))
  have v2 : decide (a.kind = b.kind) = true := decide_eq_true c2
  rw [v2, Bool.true_and] at hz
  repeat (first | refine wA ?_ | refine wB ?_ | refine wC rfl ?_ | refine wD rfl ?_ | refine wE ?_ | refine wF (by omega) ?_ | ((first | refine wG ?_ | refine wH ?_ | refine wI ?_ | refine wJ ?_ | refine wK ?_ | refine wL ?_); simp (disch := omega) only [wP, wZ, undef, UInt8.reduceToNat, Nat.reduceOr, Nat.reduceAnd, Nat.reduceXor, Nat.reduceDiv, if_pos, if_neg, aStore, frz, AV.flat, ↓reduceIte, ne_eq, reduceCtorEq, Int.reduceToNat, Nat.reduceEqDiff, Nat.reduceAdd, Nat.reduceSub, Nat.reduceMul, Int.reduceAdd, Int.reduceMul, Int.reduceSub, Int.reduceLT, Int.reduceLE, Int.reduceEq, Int.reduceNe, Nat.reduceLeDiff, Nat.reduceLT, Int.reduceNeg, Nat.reducePow, Nat.reduceMod, ByteArray.size, boo, dk, hg1, hg2, entV, entL, v1, v2, List.length_map]))
  refine goC_p _ (.inl ⟨by simp only [AV.free, AV.free.freeL, free_u8, Bool.and_self], ref_alike_c a b⟩) ?_
  cases c3 : alikeB a b
  · rw [c3, Bool.false_and, Bool.false_and] at hz
    subst hz
    repeat (first | refine wA ?_ | refine wB ?_ | refine wC rfl ?_ | refine wD rfl ?_ | refine wE ?_ | refine wF (by omega) ?_ | ((first | refine wG ?_ | refine wH ?_ | refine wI ?_ | refine wJ ?_ | refine wK ?_ | refine wL ?_); simp (disch := omega) only [wP, wZ, undef, UInt8.reduceToNat, Nat.reduceOr, Nat.reduceAnd, Nat.reduceXor, Nat.reduceDiv, if_pos, if_neg, aStore, frz, AV.flat, ↓reduceIte, ne_eq, reduceCtorEq, Int.reduceToNat, Nat.reduceEqDiff, Nat.reduceAdd, Nat.reduceSub, Nat.reduceMul, Int.reduceAdd, Int.reduceMul, Int.reduceSub, Int.reduceLT, Int.reduceLE, Int.reduceEq, Int.reduceNe, Nat.reduceLeDiff, Nat.reduceLT, Int.reduceNeg, Nat.reducePow, Nat.reduceMod, ByteArray.size, boo]))
  rw [c3, Bool.true_and] at hz
  by_cases c4 : a.link = b.link
  case neg =>
    have v4 : decide (a.link = b.link) = false := decide_eq_false c4
    rw [v4, Bool.false_and, Bool.false_and] at hz
    subst hz
    repeat (first | refine wA ?_ | refine wB ?_ | refine wC rfl ?_ | refine wD rfl ?_ | refine wE ?_ | refine wF (by omega) ?_ | ((first | refine wG ?_ | refine wH ?_ | refine wI ?_ | refine wJ ?_ | refine wK ?_ | refine wL ?_); simp (disch := omega) only [wP, wZ, undef, UInt8.reduceToNat, Nat.reduceOr, Nat.reduceAnd, Nat.reduceXor, Nat.reduceDiv, if_pos, if_neg, aStore, frz, AV.flat, ↓reduceIte, ne_eq, reduceCtorEq, Int.reduceToNat, Nat.reduceEqDiff, Nat.reduceAdd, Nat.reduceSub, Nat.reduceMul, Int.reduceAdd, Int.reduceMul, Int.reduceSub, Int.reduceLT, Int.reduceLE, Int.reduceEq, Int.reduceNe, Nat.reduceLeDiff, Nat.reduceLT, Int.reduceNeg, Nat.reducePow, Nat.reduceMod, ByteArray.size, boo, hg1, hg2, entV, entL, v4, List.length_map]))
  have v4 : decide (a.link = b.link) = true := decide_eq_true c4
  rw [v4, Bool.true_and] at hz
  by_cases c5 : a.data = b.data
  case neg =>
    have v5 : decide (a.data = b.data) = false := decide_eq_false c5
    rw [v5, Bool.false_and] at hz
    subst hz
    repeat (first | refine wA ?_ | refine wB ?_ | refine wC rfl ?_ | refine wD rfl ?_ | refine wE ?_ | refine wF (by omega) ?_ | ((first | refine wG ?_ | refine wH ?_ | refine wI ?_ | refine wJ ?_ | refine wK ?_ | refine wL ?_); simp (disch := omega) only [wP, wZ, undef, UInt8.reduceToNat, Nat.reduceOr, Nat.reduceAnd, Nat.reduceXor, Nat.reduceDiv, if_pos, if_neg, aStore, frz, AV.flat, ↓reduceIte, ne_eq, reduceCtorEq, Int.reduceToNat, Nat.reduceEqDiff, Nat.reduceAdd, Nat.reduceSub, Nat.reduceMul, Int.reduceAdd, Int.reduceMul, Int.reduceSub, Int.reduceLT, Int.reduceLE, Int.reduceEq, Int.reduceNe, Nat.reduceLeDiff, Nat.reduceLT, Int.reduceNeg, Nat.reducePow, Nat.reduceMod, ByteArray.size, boo, hg1, hg2, entV, entL, v4, v5, List.length_map]))
    done
  have v5 : decide (a.data = b.data) = true := decide_eq_true c5
  rw [v5, Bool.true_and] at hz
  repeat (first | refine wA ?_ | refine wB ?_ | refine wC rfl ?_ | refine wD rfl ?_ | refine wE ?_ | refine wF (by omega) ?_ | ((first | refine wG ?_ | refine wH ?_ | refine wI ?_ | refine wJ ?_ | refine wK ?_ | refine wL ?_); simp (disch := omega) only [wP, wZ, undef, UInt8.reduceToNat, Nat.reduceOr, Nat.reduceAnd, Nat.reduceXor, Nat.reduceDiv, if_pos, if_neg, aStore, frz, AV.flat, ↓reduceIte, ne_eq, reduceCtorEq, Int.reduceToNat, Nat.reduceEqDiff, Nat.reduceAdd, Nat.reduceSub, Nat.reduceMul, Int.reduceAdd, Int.reduceMul, Int.reduceSub, Int.reduceLT, Int.reduceLE, Int.reduceEq, Int.reduceNe, Nat.reduceLeDiff, Nat.reduceLT, Int.reduceNeg, Nat.reducePow, Nat.reduceMod, ByteArray.size, boo, hg1, hg2, entV, entL, v4, v5, List.length_map]))
  refine At.of (k + 1) ⟨by omega, hz⟩ (by omega) rfl rfl (Nat.le_refl _) ?_ ?_
  iterate 2 (case _ => simp (disch := omega) only [wP, wZ, undef, UInt8.reduceToNat, Nat.reduceOr, Nat.reduceAnd, Nat.reduceXor, Nat.reduceDiv, if_pos, if_neg, aStore, frz, AV.flat, ↓reduceIte, ne_eq, reduceCtorEq, Int.reduceToNat, Nat.reduceEqDiff, Nat.reduceAdd, Nat.reduceSub, Nat.reduceMul, Int.reduceAdd, Int.reduceMul, Int.reduceSub, Int.reduceLT, Int.reduceLE, Int.reduceEq, Int.reduceNe, Nat.reduceLeDiff, Nat.reduceLT, Int.reduceNeg, Nat.reducePow, Nat.reduceMod, ByteArray.size])
end Go.Proofs.YtbmmdkbinlnogaaDoor.Aw
namespace Go.Proofs.YtbmmdkbinlnogaaDoor.Aw
open Go
set_option linter.unusedSimpArgs false
set_option linter.unusedVariables false
def rgtL (e : Ent) : List AV := [int e.mode, int e.uid, int e.gid, str e.owner, str e.group, int e.mtime]
def inI (n : Int) : Prop := -9223372036854775808 ≤ n ∧ n ≤ 9223372036854775807
def entI (e : Ent) : Prop := inI e.mode ∧ inI e.uid ∧ inI e.gid ∧ inI e.mtime
set_option maxHeartbeats 1000000 in
set_option maxRecDepth 100000 in
theorem rightsOf_c [Tabs Tryd.prog] (e : Ent) : Con Tryd.prog n_entry_rightsOf [entV e] (.agg (rgtL e)) := by
  refine Con.of' mix Tryd.func49 rfl Tryd.ntmps49 e_entry_rightsOf r_entry_rightsOf (by simp) free_entV rfl ?_
  unfold s_entry_rightsOf
  repeat (first | refine wA ?_ | refine wB ?_ | refine wC rfl ?_ | refine wD rfl ?_ | refine wE ?_ | refine wF (by omega) ?_ | ((first | refine wG ?_ | refine wH ?_ | refine wI ?_ | refine wJ ?_ | refine wK ?_ | refine wL ?_); simp (disch := omega) only [wP, wZ, undef, UInt8.reduceToNat, Nat.reduceOr, Nat.reduceAnd, Nat.reduceXor, Nat.reduceDiv, if_pos, if_neg, aStore, frz, AV.flat, ↓reduceIte, ne_eq, reduceCtorEq, Int.reduceToNat, Nat.reduceEqDiff, Nat.reduceAdd, Nat.reduceSub, Nat.reduceMul, Int.reduceAdd, Int.reduceMul, Int.reduceSub, Int.reduceLT, Int.reduceLE, Int.reduceEq, Int.reduceNe, Nat.reduceLeDiff, Nat.reduceLT, Int.reduceNeg, Nat.reducePow, Nat.reduceMod, ByteArray.size, entV, entL, rgtL]))
theorem str_inj {a b : List UInt8} (h : str a = str b) : a = b := by
  simp only [str, AV.sc.injEq, Value.string.injEq, ByteArray.mk.injEq] at h
  simpa using congrArg Array.toList h
theorem int_inj {a b : Int} (h : int a = int b) : a = b := by simpa [int] using h
theorem eqB_rgt {a b : Ent} : eqB (.agg (rgtL a)) (.agg (rgtL b)) = alikeB a b := by
  cases h : alikeB a b
  · refine eqB_f (fun e => ?_)
    simp only [rgtL, AV.agg.injEq, List.cons.injEq, and_true] at e
    obtain ⟨e1, e2, e3, e4, e5, e6⟩ := e
    have : alikeB a b = true := by
      simp only [alikeB, int_inj e1, int_inj e2, int_inj e3, str_inj e4, str_inj e5, int_inj e6, decide_true, Bool.and_self]
    rw [this] at h
    cases h
  · refine eqB_t ?_
    simp only [alikeB, Bool.and_eq_true, decide_eq_true_eq] at h
    obtain ⟨e1, e2, e3, e4, e5, e6⟩ := h
    simp only [rgtL, e1, e2, e3, e4, e5, e6]
theorem like_rgt {e : Ent} (h : entI e) (h1 : e.owner.length ≤ 1000000) (h2 : e.group.length ≤ 1000000) : likeA (.agg #[.int .i64 0, .int .i64 0, .int .i64 0, .string ⟨#[]⟩, .string ⟨#[]⟩, .int .i64 0]) (.agg (rgtL e)) = True := by
  have k1 : IntKind.i64.min = -9223372036854775808 := rfl
  have k2 : IntKind.i64.max = 9223372036854775807 := rfl
  obtain ⟨⟨_, _⟩, ⟨_, _⟩, ⟨_, _⟩, ⟨_, _⟩⟩ := h
  refine eq_true ?_
  simp only [rgtL, int, str, likeA, likeAL, likeA1, k1, k2, and_true, true_and, ByteArray.size, List.size_toArray]
  omega
end Go.Proofs.YtbmmdkbinlnogaaDoor.Aw
namespace Go.Proofs.YtbmmdkbinlnogaaDoor.Aw
open Go
set_option linter.unusedSimpArgs false
set_option linter.unusedVariables false
end Go.Proofs.YtbmmdkbinlnogaaDoor.Aw
namespace Go.Proofs.YtbmmdkbinlnogaaDoor.Aw
open Go
set_option linter.unusedSimpArgs false
set_option linter.unusedVariables false
def enM (e : Ent) : AV := .tup [str e.path, entV e]
def upM (p : List UInt8) : AV := .tup [str p, .agg []]
theorem str_eq {a b : List UInt8} : (str a = str b) = (a = b) := propext ⟨str_inj, fun h => by rw [h]⟩
def findE (p : List UInt8) : List Ent → Option Ent
  | [] => none
  | e :: M => if p = e.path then some e else findE p M
theorem mfind_enM {p : List UInt8} : ∀ {M : List Ent}, mfind (.sc (.string ⟨p.toArray⟩)) (M.map enM) = (findE p M).map entV
  | [] => rfl
  | e :: M => by
    rw [List.map_cons, enM, mfind, findE, show (AV.sc (.string ⟨p.toArray⟩) = str e.path) = (p = e.path) from str_eq]
    by_cases h : p = e.path
    · rw [if_pos h, if_pos h]; rfl
    · rw [if_neg h, if_neg h]; exact mfind_enM
theorem mfind_upM {p : List UInt8} : ∀ {U : List (List UInt8)}, mfind (.sc (.string ⟨p.toArray⟩)) (U.map upM) = if p ∈ U then some (.agg []) else none
  | [] => by simp [mfind]
  | q :: U => by
    rw [List.map_cons, upM, mfind, show (AV.sc (.string ⟨p.toArray⟩) = str q) = (p = q) from str_eq, mfind_upM]
    by_cases h : p = q
    · rw [if_pos h, if_pos (by simp [h])]
    · rw [if_neg h]
      simp [h]
theorem mput_enM {e : Ent} : ∀ {M : List Ent}, findE e.path M = none → mput (.sc (.string ⟨e.path.toArray⟩)) (entV e) (M.map enM) = (M ++ [e]).map enM
  | [], _ => rfl
  | x :: M, h => by
    rw [findE] at h
    by_cases c : e.path = x.path
    · rw [if_pos c] at h
      cases h
    · rw [if_neg c] at h
      rw [List.map_cons, enM, mput, show (AV.sc (.string ⟨e.path.toArray⟩) = str x.path) = (e.path = x.path) from str_eq, if_neg c, mput_enM h]
      rfl
def putU (p : List UInt8) (U : List (List UInt8)) : List (List UInt8) := if p ∈ U then U else U ++ [p]
theorem mput_upM {p : List UInt8} : ∀ {U : List (List UInt8)}, mput (.sc (.string ⟨p.toArray⟩)) (.agg []) (U.map upM) = (putU p U).map upM
  | [] => rfl
  | q :: U => by
    rw [List.map_cons, upM, mput, show (AV.sc (.string ⟨p.toArray⟩) = str q) = (p = q) from str_eq]
    by_cases c : p = q
    · rw [if_pos c, putU, if_pos (by simp [c])]
      rfl
    · rw [if_neg c, mput_upM, putU, putU]
      by_cases d : p ∈ U
      · rw [if_pos d, if_pos (by simp [d])]
        rfl
      · rw [if_neg d, if_neg (by simp [c, d])]
        rfl
theorem like_str {p : List UInt8} (h : p.length ≤ 1000000) : likeA (.string ⟨#[]⟩) (.sc (.string ⟨p.toArray⟩)) = True := by
  refine eq_true ?_
  simp only [likeA, likeA1, ByteArray.size, List.size_toArray]
  omega
theorem ents_enM : ∀ {M : List Ent}, (∀ e ∈ M, e.path.length ≤ 1000000) → entsOk (.string ⟨#[]⟩) (M.map enM) = True
  | [], _ => eq_true trivial
  | e :: M, h => by
    refine eq_true ⟨?_, of_eq_true (ents_enM (fun x hx => h x (by simp [hx])))⟩
    exact of_eq_true (like_str (h e (by simp)))
theorem ents_upM : ∀ {U : List (List UInt8)}, (∀ p ∈ U, p.length ≤ 1000000) → entsOk (.string ⟨#[]⟩) (U.map upM) = True
  | [], _ => eq_true trivial
  | p :: U, h => by
    refine eq_true ⟨?_, of_eq_true (ents_upM (fun x hx => h x (by simp [hx])))⟩
    exact of_eq_true (like_str (h p (by simp)))
theorem free_enM {M : List Ent} : AV.free.freeL (M.map enM) = true := freeL_iff.2 fun x hx => by
  obtain ⟨e, _, rfl⟩ := List.mem_map.1 hx
  simp only [enM, entV, entL, AV.free, AV.free.freeL, str, int, free_u8, Bool.and_self]
theorem free_upM {U : List (List UInt8)} : AV.free.freeL (U.map upM) = true := freeL_iff.2 fun x hx => by
  obtain ⟨e, _, rfl⟩ := List.mem_map.1 hx; rfl
abbrev ahI (M : List Ent) (U : List (List UInt8)) : List AO := [.row false [.tup (M.map enM)], .row false [.tup (U.map upM)]]
abbrev ahO (M : List Ent) (U : List (List UInt8)) : List (Nat × Nat × AO) := [(1000, 0, .row false [.tup (M.map enM)]), (1001, 0, .row false [.tup (U.map upM)])]
theorem ah_gl {M : List Ent} {U : List (List UInt8)} : ∀ n cells, AO.row n cells ∈ ahI M U → AV.gl.glL 1 cells := by
  intro n cells h
  simp only [List.mem_cons, AO.row.injEq, List.not_mem_nil, or_false] at h
  obtain ⟨-, rfl⟩ | ⟨-, rfl⟩ := h
  · simp only [AV.gl.glL, AV.gl, and_true]
    exact glL_of_free _ _ free_enM
  · simp only [AV.gl.glL, AV.gl, and_true]
    exact glL_of_free _ _ free_upM
theorem ent_gl {c : Nat} {e : Ent} : AV.gl.glL c [entV e] := glL_of_free _ _ free_entV
set_option maxHeartbeats 1000000 in
set_option maxRecDepth 100000 in
theorem isAboveOne_h [Tabs Tryd.prog] (M : List Ent) (U : List (List UInt8)) (hM : ∀ e ∈ M, e.path.length ≤ 1000000) (hU : ∀ p ∈ U, p.length ≤ 1000000) (e : Ent) (he : e.path.length ≤ 1000000) :
    HCon Tryd.prog n_entry_ahead_isAboveOne [.agg [.mp 1000 0, .mp 1001 0], entV e] (ahI M U) (boo (decide (e.path ∈ U) && !decide (e.kind = 2))) (ahO M U) 5 := by
  refine HCon.of' mix Tryd.func51 rfl Tryd.ntmps51 e_entry_ahead_isAboveOne r_entry_ahead_isAboveOne (by simp) ⟨by simp [AV.gl, AV.gl.glL], ent_gl⟩ ah_gl ?_
  unfold s_entry_ahead_isAboveOne
  obtain ⟨Z, hZ⟩ : ∃ Z, Z = (decide (e.path ∈ U) && !decide (e.kind = 2)) := ⟨_, rfl⟩
  rw [← hZ]
  have hf := mfind_upM (p := e.path) (U := U)
  have hk := like_str he
  have hu := ents_upM hU
  have z0 : zeroA (.agg #[]) = .agg [] := rfl
  by_cases h1 : e.path ∈ U
  · rw [if_pos h1] at hf
    rw [decide_eq_true h1, Bool.true_and] at hZ
    subst hZ
    repeat (first | refine wA ?_ | refine wB ?_ | refine wC rfl ?_ | refine wD rfl ?_ | refine wE ?_ | refine wF (by omega) ?_ | ((first | refine wG ?_ | refine wH ?_ | refine wI ?_ | refine wJ ?_ | refine wK ?_ | refine wL ?_); simp (disch := omega) only [wP, wZ, undef, UInt8.reduceToNat, Nat.reduceOr, Nat.reduceAnd, Nat.reduceXor, Nat.reduceDiv, if_pos, if_neg, aStore, frz, AV.flat, ↓reduceIte, ne_eq, reduceCtorEq, Int.reduceToNat, Nat.reduceEqDiff, Nat.reduceAdd, Nat.reduceSub, Nat.reduceMul, Int.reduceAdd, Int.reduceMul, Int.reduceSub, Int.reduceLT, Int.reduceLE, Int.reduceEq, Int.reduceNe, Nat.reduceLeDiff, Nat.reduceLT, Int.reduceNeg, Nat.reducePow, Nat.reduceMod, ByteArray.size, boo, entV, entL, hf, hk, hu, Option.isSome_some]))
    done
  · rw [if_neg h1] at hf
    rw [decide_eq_false h1, Bool.false_and] at hZ
    subst hZ
    repeat (first | refine wA ?_ | refine wB ?_ | refine wC rfl ?_ | refine wD rfl ?_ | refine wE ?_ | refine wF (by omega) ?_ | ((first | refine wG ?_ | refine wH ?_ | refine wI ?_ | refine wJ ?_ | refine wK ?_ | refine wL ?_); simp (disch := omega) only [wP, wZ, undef, UInt8.reduceToNat, Nat.reduceOr, Nat.reduceAnd, Nat.reduceXor, Nat.reduceDiv, if_pos, if_neg, aStore, frz, AV.flat, ↓reduceIte, ne_eq, reduceCtorEq, Int.reduceToNat, Nat.reduceEqDiff, Nat.reduceAdd, Nat.reduceSub, Nat.reduceMul, Int.reduceAdd, Int.reduceMul, Int.reduceSub, Int.reduceLT, Int.reduceLE, Int.reduceEq, Int.reduceNe, Nat.reduceLeDiff, Nat.reduceLT, Int.reduceNeg, Nat.reducePow, Nat.reduceMod, ByteArray.size, boo, entV, entL, hf, hk, hu, Option.isSome_none, z0]))
    done
end Go.Proofs.YtbmmdkbinlnogaaDoor.Aw
namespace Go.Proofs.YtbmmdkbinlnogaaDoor.Aw
open Go
set_option linter.unusedSimpArgs false
set_option linter.unusedVariables false
abbrev Fi := List (List UInt8 × Nat)
def fiM (p : List UInt8 × Nat) : AV := .tup [str p.1, int p.2]
def findF (p : List UInt8) : Fi → Option Nat
  | [] => none
  | e :: M => if p = e.1 then some e.2 else findF p M
theorem mfind_fi {p : List UInt8} : ∀ {M : Fi}, mfind (.sc (.string ⟨p.toArray⟩)) (M.map fiM) = (findF p M).map fun (i : Nat) => int (i : Int)
  | [] => rfl
  | e :: M => by
    rw [List.map_cons, fiM, mfind, findF, show (AV.sc (.string ⟨p.toArray⟩) = str e.1) = (p = e.1) from str_eq]
    by_cases h : p = e.1
    · rw [if_pos h, if_pos h]; rfl
    · rw [if_neg h, if_neg h]; exact mfind_fi
theorem mput_fi {p : List UInt8} {i : Nat} : ∀ {M : Fi}, findF p M = none → mput (.sc (.string ⟨p.toArray⟩)) (.sc (.int .i64 i)) (M.map fiM) = (M ++ [(p, i)]).map fiM
  | [], _ => rfl
  | x :: M, h => by
    rw [findF] at h
    by_cases c : p = x.1
    · rw [if_pos c] at h
      cases h
    · rw [if_neg c] at h
      rw [List.map_cons, fiM, mput, show (AV.sc (.string ⟨p.toArray⟩) = str x.1) = (p = x.1) from str_eq, if_neg c, mput_fi h]
      rfl
theorem ents_fi : ∀ {M : Fi}, (∀ e ∈ M, e.1.length ≤ 1000000) → entsOk (.string ⟨#[]⟩) (M.map fiM) = True
  | [], _ => eq_true trivial
  | e :: M, h => by
    refine eq_true ⟨?_, of_eq_true (ents_fi (fun x hx => h x (by simp [hx])))⟩
    exact of_eq_true (like_str (h e (by simp)))
theorem findF_mem {p : List UInt8} {i : Nat} : ∀ {M : Fi}, findF p M = some i → (p, i) ∈ M
  | e :: M, h => by
    rw [findF] at h
    by_cases c : p = e.1
    · rw [if_pos c] at h
      cases h
      subst c
      simp
    · rw [if_neg c] at h
      exact List.mem_cons_of_mem _ (findF_mem h)
instance : Inhabited Ent := ⟨⟨[], 0, 0, 0, 0, [], [], 0, [], true, []⟩⟩
def asReg (e f : Ent) : Ent := { e with kind := 1, link := [], nl := f.nl, data := f.data }
def asHard (e : Ent) (p : List UInt8) : Ent := { e with kind := 4, link := p, nl := true, data := [] }
def regS (L : List Ent) (F : Fi) (i : Nat) : List Ent × Fi :=
  if (filV (L.getD i default)).2 then
    match findF (filV (L.getD i default)).1 F with
    | none => (L, F ++ [((filV (L.getD i default)).1, i)])
    | some m => ((if (L.getD i default).kind = 1 then L.set m (asReg (L.getD m default) (L.getD i default)) else L).set i (asHard (L.getD i default) (L.getD m default).path), F)
  else (L, F)
def regL (l : List Ent) : Nat → List Ent × Fi
  | 0 => (l, [])
  | k + 1 => regS (regL l k).1 (regL l k).2 k
theorem regS_len {L : List Ent} {F : Fi} {i : Nat} : (regS L F i).1.length = L.length := by
  unfold regS
  split
  · split
    · rfl
    · split <;> simp
  · rfl
theorem regL_len {l : List Ent} : ∀ k, (regL l k).1.length = l.length
  | 0 => rfl
  | k + 1 => by rw [regL, regS_len, regL_len k]
theorem regL_lt {l : List Ent} : ∀ k, ∀ p ∈ (regL l k).2, p.2 < k
  | 0 => by simp [regL]
  | k + 1 => by
    intro p hp
    have ih := regL_lt (l := l) k
    rw [regL, regS] at hp
    split at hp
    · split at hp
      · rcases List.mem_append.1 hp with h | h
        · exact Nat.lt_succ_of_lt (ih p h)
        · simp only [List.mem_singleton] at h
          subst h
          exact Nat.lt_succ_self k
      · exact Nat.lt_succ_of_lt (ih p hp)
    · exact Nat.lt_succ_of_lt (ih p hp)
def shE (l : List Ent) : Prop := ∀ e ∈ l, e.path.length ≤ 1000000 ∧ e.link.length ≤ 1000000
theorem filV_short {e : Ent} (h : e.path.length ≤ 1000000 ∧ e.link.length ≤ 1000000) : (filV e).1.length ≤ 1000000 := by
  unfold filV
  split
  · exact h.1
  · split
    · exact h.2
    · simp
theorem getD_mem {l : List Ent} {i : Nat} (h : i < l.length) : l.getD i default ∈ l := by
  simp [List.getD, List.getElem?_eq_getElem h]
theorem regS_sh {L : List Ent} {F : Fi} {i : Nat} (hL : shE L) (hi : i < L.length) (hF : ∀ p ∈ F, p.2 < L.length) : shE (regS L F i).1 := by
  unfold regS
  have he := hL _ (getD_mem hi)
  split
  · split
    · exact hL
    · rename_i m hm
      have hm' := hL _ (getD_mem (hF _ (findF_mem hm)))
      have h1 : shE (if (L.getD i default).kind = 1 then L.set m (asReg (L.getD m default) (L.getD i default)) else L) := by
        split
        · intro e h
          rcases List.mem_or_eq_of_mem_set h with h | rfl
          · exact hL e h
          · exact ⟨hm'.1, by simp [asReg]⟩
        · exact hL
      intro e h
      rcases List.mem_or_eq_of_mem_set h with h | rfl
      · exact h1 e h
      · exact ⟨he.1, hm'.1⟩
  · exact hL
theorem regL_sh {l : List Ent} (h : shE l) : ∀ k, k ≤ l.length → shE (regL l k).1
  | 0, _ => h
  | k + 1, hk => by
    refine regS_sh (regL_sh h k (by omega)) (by rw [regL_len]; omega) fun p hp => ?_
    have := regL_lt k p hp
    rw [regL_len]
    omega
theorem regL_fsh {l : List Ent} (h : shE l) : ∀ k, k ≤ l.length → ∀ p ∈ (regL l k).2, p.1.length ≤ 1000000
  | 0, _ => by simp [regL]
  | k + 1, hk => by
    intro p hp
    have ih := regL_fsh h k (by omega)
    have hs := filV_short (regL_sh h k (by omega) _ (getD_mem (i := k) (by rw [regL_len]; omega)))
    rw [regL, regS] at hp
    split at hp
    · split at hp
      · rcases List.mem_append.1 hp with h | h
        · exact ih p h
        · simp only [List.mem_singleton] at h
          subst h
          exact hs
      · exact ih p hp
    · exact ih p hp
theorem SWp.reread {P : Program} [Tabs P] [Lim] {Q : Ex → ASt → Prop} {st : ASt} {c : SCode} (id g : Nat) {nl : Bool} {cells : List AV} (cells' : List AV) (hid : st.hp id = some (g, .row nl cells)) (hg : ∀ c, AV.gl.glL c cells → AV.gl.glL c cells') (h0 : cells = [] → cells' = [])
    (hb : ∀ G w vs, RdL G w cells vs → RdL G w cells' vs)
    (h : SWp P c Q ⟨st.tm, updH st.hp id (some (g, .row nl cells')), st.gc, st.N⟩) : SWp P c Q st := by
  intro hm code hc w0 M Z G a w hZ hR
  have hH2 := heap_recell hR.heap hid (hg _ (hR.heap.gl _ _ _ _ hid).2) h0 (fun vs hvs => hb _ _ vs hvs)
  exact h hm code hc w0 M Z G a w hZ ⟨hR.keep, hH2, hR.size, hR.tm, hR.gl, hR.defers, hR.fr, hR.ext, hR.lc, hR.lc1, hR.tabs⟩
theorem nil_rd {G : Gh} {w : World} {es : Option Nat} {xs ys : List AV} {vs : List Value} (h : RdL G w (xs ++ .sc (.slice none 0 0) :: ys) vs) : RdL G w (xs ++ .sl true es [] :: ys) vs := by
  obtain ⟨a, b, rfl, h1, h2⟩ := RdL.split h
  refine RdL.app h1 ?_
  simp only [RdL] at h2 ⊢
  obtain ⟨v, r, rfl, h3, h4⟩ := h2
  simp only [Rd] at h3
  subst h3
  refine ⟨_, r, rfl, ?_, h4⟩
  simp only [Rd]
  exact ⟨none, 0, 0, [], rfl, rfl, Nat.le_refl _, by simp [RdL], by simp, fun _ => rfl, fun a h => by cases h⟩
set_option maxHeartbeats 2000000 in
set_option maxRecDepth 100000 in
theorem regroup_h [Tabs Tryd.prog] (nl : Bool) (l : List Ent) (hl : l.length ≤ 1000000) (hs : shE l) : HCon Tryd.prog n_entry_regroup [.own 1000 0 (some 10) 0 l.length] [.row nl (enC l)] (.tup []) [(1000, 0, .row nl (enC (regL l l.length).1))] 2 := by
  refine HCon.of' mix Tryd.func40 rfl Tryd.ntmps40 e_entry_regroup r_entry_regroup (by simp) (by simp [AV.gl, AV.gl.glL]) enC_gl ?_
  unfold s_entry_regroup
  repeat (first | refine wA ?_ | refine wB ?_ | refine wC rfl ?_ | refine wD rfl ?_ | refine wE ?_ | refine wF (by omega) ?_ | ((first | refine wG ?_ | refine wH ?_ | refine wI ?_ | refine wJ ?_ | refine wK ?_ | refine wL ?_); simp (disch := omega) only [wP, wZ, undef, UInt8.reduceToNat, Nat.reduceOr, Nat.reduceAnd, Nat.reduceXor, Nat.reduceDiv, if_pos, if_neg, aStore, frz, AV.flat, ↓reduceIte, ne_eq, reduceCtorEq, Int.reduceToNat, Nat.reduceEqDiff, Nat.reduceAdd, Nat.reduceSub, Nat.reduceMul, Int.reduceAdd, Int.reduceMul, Int.reduceSub, Int.reduceLT, Int.reduceLE, Int.reduceEq, Int.reduceNe, Nat.reduceLeDiff, Nat.reduceLT, Int.reduceNeg, Nat.reducePow, Nat.reduceMod, ByteArray.size]))
  refine SWp.loop (α := Nat) (fun k => mk 76 2 [(0, .own 1000 0 (some 10) 0 l.length), (2, .mp 8 1), (10, int l.length), (11, int k)] [(1000, 0, .row nl (enC (regL l k).1)), (8, 1, .row false [.tup ((regL l k).2.map fiM)])])
    (fun k => k ≤ l.length) (fun k => l.length - k) 0 (Nat.zero_le _) (le_mk rfl ?_ ?_ ?_) ?_
  · exact Nat.le_refl _
  iterate 2 (case _ => simp (disch := omega) only [wP, wZ, undef, UInt8.reduceToNat, Nat.reduceOr, Nat.reduceAnd, Nat.reduceXor, Nat.reduceDiv, if_pos, if_neg, aStore, frz, AV.flat, ↓reduceIte, ne_eq, reduceCtorEq, Int.reduceToNat, Nat.reduceEqDiff, Nat.reduceAdd, Nat.reduceSub, Nat.reduceMul, Int.reduceAdd, Int.reduceMul, Int.reduceSub, Int.reduceLT, Int.reduceLE, Int.reduceEq, Int.reduceNe, Nat.reduceLeDiff, Nat.reduceLT, Int.reduceNeg, Nat.reducePow, Nat.reduceMod, ByteArray.size, regL, List.map_nil])
  rintro k hk -
  have hlen := regL_len (l := l) k
  by_cases hk' : k < l.length
  case neg =>
    have d : decide ((k : Int) < (l.length : Int)) = false := decide_eq_false (by omega)
    have e : k = l.length := by omega
    subst e
    repeat (first | refine wA ?_ | refine wB ?_ | refine wC rfl ?_ | refine wD rfl ?_ | refine wE ?_ | refine wF (by omega) ?_ | ((first | refine wG ?_ | refine wH ?_ | refine wI ?_ | refine wJ ?_ | refine wK ?_ | refine wL ?_); simp (disch := omega) only [wP, wZ, undef, UInt8.reduceToNat, Nat.reduceOr, Nat.reduceAnd, Nat.reduceXor, Nat.reduceDiv, if_pos, if_neg, aStore, frz, AV.flat, ↓reduceIte, ne_eq, reduceCtorEq, Int.reduceToNat, Nat.reduceEqDiff, Nat.reduceAdd, Nat.reduceSub, Nat.reduceMul, Int.reduceAdd, Int.reduceMul, Int.reduceSub, Int.reduceLT, Int.reduceLE, Int.reduceEq, Int.reduceNe, Nat.reduceLeDiff, Nat.reduceLT, Int.reduceNeg, Nat.reducePow, Nat.reduceMod, ByteArray.size, d]))
    rfl
  have d : decide ((k : Int) < (l.length : Int)) = true := decide_eq_true (by omega)
  have hlt := regL_lt (l := l) k
  have hfsh := regL_fsh hs k hk
  have hsh := regL_sh hs k hk
  have hnext : regL l (k + 1) = regS (regL l k).1 (regL l k).2 k := rfl
  obtain ⟨L, hL⟩ : ∃ L, L = (regL l k).1 := ⟨_, rfl⟩
  obtain ⟨F, hF⟩ : ∃ F, F = (regL l k).2 := ⟨_, rfl⟩
  rw [← hL] at hlen hsh hnext
  rw [← hF] at hlt hfsh hnext
  rw [← hL, ← hF]
  have hkL : k < L.length := by omega
  have hld := load_enC hkL
  have hgd : L.getD k default = L[k] := by simp [List.getD, List.getElem?_eq_getElem hkL]
  rw [regS, hgd] at hnext
  repeat (first | refine wA ?_ | refine wB ?_ | refine wC rfl ?_ | refine wD rfl ?_ | refine wE ?_ | refine wF (by omega) ?_ | ((first | refine wG ?_ | refine wH ?_ | refine wI ?_ | refine wJ ?_ | refine wK ?_ | refine wL ?_); simp (disch := omega) only [wP, wZ, undef, UInt8.reduceToNat, Nat.reduceOr, Nat.reduceAnd, Nat.reduceXor, Nat.reduceDiv, if_pos, if_neg, aStore, frz, AV.flat, ↓reduceIte, ne_eq, reduceCtorEq, Int.reduceToNat, Nat.reduceEqDiff, Nat.reduceAdd, Nat.reduceSub, Nat.reduceMul, Int.reduceAdd, Int.reduceMul, Int.reduceSub, Int.reduceLT, Int.reduceLE, Int.reduceEq, Int.reduceNe, Nat.reduceLeDiff, Nat.reduceLT, Int.reduceNeg, Nat.reducePow, Nat.reduceMod, ByteArray.size, d, hld, length_enC, hlen]))
  refine goC_p _ (.inl ⟨free_entV, fileOf_c L[k]⟩) ?_
  have hsp := filV_short (hsh _ (List.getElem_mem hkL))
  obtain ⟨P, hP⟩ : ∃ P, P = (filV L[k]).1 := ⟨_, rfl⟩
  obtain ⟨b, hb⟩ : ∃ b, b = (filV L[k]).2 := ⟨_, rfl⟩
  rw [← hP] at hsp
  rw [← hP, ← hb] at hnext ⊢
  have hkp := like_str hsp
  have hef := ents_fi hfsh
  cases b
  · rw [if_neg (by simp)] at hnext
    repeat (first | refine wA ?_ | refine wB ?_ | refine wC rfl ?_ | refine wD rfl ?_ | refine wE ?_ | refine wF (by omega) ?_ | ((first | refine wG ?_ | refine wH ?_ | refine wI ?_ | refine wJ ?_ | refine wK ?_ | refine wL ?_); simp (disch := omega) only [wP, wZ, undef, UInt8.reduceToNat, Nat.reduceOr, Nat.reduceAnd, Nat.reduceXor, Nat.reduceDiv, if_pos, if_neg, aStore, frz, AV.flat, ↓reduceIte, ne_eq, reduceCtorEq, Int.reduceToNat, Nat.reduceEqDiff, Nat.reduceAdd, Nat.reduceSub, Nat.reduceMul, Int.reduceAdd, Int.reduceMul, Int.reduceSub, Int.reduceLT, Int.reduceLE, Int.reduceEq, Int.reduceNe, Nat.reduceLeDiff, Nat.reduceLT, Int.reduceNeg, Nat.reducePow, Nat.reduceMod, ByteArray.size, boo]))
    refine At.of (k + 1) (by omega) (by omega) rfl rfl (Nat.le_refl _) ?_ ?_
    · simp (disch := omega) only [wP, wZ, undef, UInt8.reduceToNat, Nat.reduceOr, Nat.reduceAnd, Nat.reduceXor, Nat.reduceDiv, if_pos, if_neg, aStore, frz, AV.flat, ↓reduceIte, ne_eq, reduceCtorEq, Int.reduceToNat, Nat.reduceEqDiff, Nat.reduceAdd, Nat.reduceSub, Nat.reduceMul, Int.reduceAdd, Int.reduceMul, Int.reduceSub, Int.reduceLT, Int.reduceLE, Int.reduceEq, Int.reduceNe, Nat.reduceLeDiff, Nat.reduceLT, Int.reduceNeg, Nat.reducePow, Nat.reduceMod, ByteArray.size]
    · rw [hnext]
      simp (disch := omega) only [wP, wZ, undef, UInt8.reduceToNat, Nat.reduceOr, Nat.reduceAnd, Nat.reduceXor, Nat.reduceDiv, if_pos, if_neg, aStore, frz, AV.flat, ↓reduceIte, ne_eq, reduceCtorEq, Int.reduceToNat, Nat.reduceEqDiff, Nat.reduceAdd, Nat.reduceSub, Nat.reduceMul, Int.reduceAdd, Int.reduceMul, Int.reduceSub, Int.reduceLT, Int.reduceLE, Int.reduceEq, Int.reduceNe, Nat.reduceLeDiff, Nat.reduceLT, Int.reduceNeg, Nat.reducePow, Nat.reduceMod, ByteArray.size]
  rw [if_pos rfl] at hnext
  have hfp := mfind_fi (p := P) (M := F)
  cases hff : findF P F with
  | none =>
    rw [hff] at hnext hfp
    have hpt := mput_fi (i := k) hff
    have z0 : zeroA (.int .i64 0) = .sc (.int .i64 0) := rfl
    repeat (first | refine wA ?_ | refine wB ?_ | refine wC rfl ?_ | refine wD rfl ?_ | refine wE ?_ | refine wF (by omega) ?_ | ((first | refine wG ?_ | refine wH ?_ | refine wI ?_ | refine wJ ?_ | refine wK ?_ | refine wL ?_); simp (disch := omega) only [wP, wZ, undef, UInt8.reduceToNat, Nat.reduceOr, Nat.reduceAnd, Nat.reduceXor, Nat.reduceDiv, if_pos, if_neg, aStore, frz, AV.flat, ↓reduceIte, ne_eq, reduceCtorEq, Int.reduceToNat, Nat.reduceEqDiff, Nat.reduceAdd, Nat.reduceSub, Nat.reduceMul, Int.reduceAdd, Int.reduceMul, Int.reduceSub, Int.reduceLT, Int.reduceLE, Int.reduceEq, Int.reduceNe, Nat.reduceLeDiff, Nat.reduceLT, Int.reduceNeg, Nat.reducePow, Nat.reduceMod, ByteArray.size, boo, hkp, hef, hfp, Option.map_none, Option.isSome_none, z0, hpt]))
    refine At.of (k + 1) (by omega) (by omega) rfl rfl (Nat.le_refl _) ?_ ?_
    · simp (disch := omega) only [wP, wZ, undef, UInt8.reduceToNat, Nat.reduceOr, Nat.reduceAnd, Nat.reduceXor, Nat.reduceDiv, if_pos, if_neg, aStore, frz, AV.flat, ↓reduceIte, ne_eq, reduceCtorEq, Int.reduceToNat, Nat.reduceEqDiff, Nat.reduceAdd, Nat.reduceSub, Nat.reduceMul, Int.reduceAdd, Int.reduceMul, Int.reduceSub, Int.reduceLT, Int.reduceLE, Int.reduceEq, Int.reduceNe, Nat.reduceLeDiff, Nat.reduceLT, Int.reduceNeg, Nat.reducePow, Nat.reduceMod, ByteArray.size]
    · rw [hnext]
      simp (disch := omega) only [wP, wZ, undef, UInt8.reduceToNat, Nat.reduceOr, Nat.reduceAnd, Nat.reduceXor, Nat.reduceDiv, if_pos, if_neg, aStore, frz, AV.flat, ↓reduceIte, ne_eq, reduceCtorEq, Int.reduceToNat, Nat.reduceEqDiff, Nat.reduceAdd, Nat.reduceSub, Nat.reduceMul, Int.reduceAdd, Int.reduceMul, Int.reduceSub, Int.reduceLT, Int.reduceLE, Int.reduceEq, Int.reduceNe, Nat.reduceLeDiff, Nat.reduceLT, Int.reduceNeg, Nat.reducePow, Nat.reduceMod, ByteArray.size]
  | some m =>
    rw [hff] at hnext hfp
    have hmk : m < k := hlt _ (findF_mem hff)
    have hmL : m < L.length := by omega
    have hgm : L.getD m default = L[m] := by simp [List.getD, List.getElem?_eq_getElem hmL]
    dsimp only at hnext
    rw [hgm] at hnext
    have c1 : (enC L).getD (k * 10 + 1) .junk = int L[k].kind := cell_enC (j := 1) hkL (by omega)
    iterate 12 (first | refine wA ?_ | refine wB ?_ | refine wC rfl ?_ | refine wD rfl ?_ | refine wE ?_ | refine wF (by omega) ?_ | ((first | refine wG ?_ | refine wH ?_ | refine wI ?_ | refine wJ ?_ | refine wK ?_ | refine wL ?_); simp (disch := omega) only [wP, wZ, undef, UInt8.reduceToNat, Nat.reduceOr, Nat.reduceAnd, Nat.reduceXor, Nat.reduceDiv, if_pos, if_neg, aStore, frz, AV.flat, ↓reduceIte, ne_eq, reduceCtorEq, Int.reduceToNat, Nat.reduceEqDiff, Nat.reduceAdd, Nat.reduceSub, Nat.reduceMul, Int.reduceAdd, Int.reduceMul, Int.reduceSub, Int.reduceLT, Int.reduceLE, Int.reduceEq, Int.reduceNe, Nat.reduceLeDiff, Nat.reduceLT, Int.reduceNeg, Nat.reducePow, Nat.reduceMod, ByteArray.size, boo, hkp, hef, hfp, Option.map_some, Option.isSome_some, c1, length_enC, hlen]))
    have q9 : (enC L).getD (k * 10 + 9) .junk = .sl L[k].nl none (L[k].data.map u8) := cell_enC (j := 9) hkL (by omega)
    by_cases h1 : L[k].kind = 1
    case' pos =>
      have q1 : decide (L[k].kind = 1) = true := decide_eq_true h1
      rw [if_pos h1] at hnext
      have s1 : (enC L).take (m * 10 + 1) ++ .sc (.int .i64 1) :: (enC L).drop (m * 10 + 1 + 1) = enC (L.set m { L[m] with kind := 1 }) := store_enC hmL (by omega) rfl
      have s2 : (enC (L.set m { L[m] with kind := 1 })).take (m * 10 + 8) ++ .sc (.string ⟨#[]⟩) :: (enC (L.set m { L[m] with kind := 1 })).drop (m * 10 + 8 + 1) = enC (L.set m { L[m] with kind := 1, link := [] }) := by
        have := store_enC (l := L.set m { L[m] with kind := 1 }) (i := m) (j := 8) (v := .sc (.string ⟨#[]⟩)) (e := { L[m] with kind := 1, link := [] }) (by simpa using hmL) (by omega) (by simp only [List.getElem_set_self]; rfl)
        rw [List.set_set] at this
        exact this
      have s3 : (enC (L.set m { L[m] with kind := 1, link := [] })).take (m * 10 + 9) ++ .sl L[k].nl none (L[k].data.map u8) :: (enC (L.set m { L[m] with kind := 1, link := [] })).drop (m * 10 + 9 + 1) = enC (L.set m (asReg L[m] L[k])) := by
        have := store_enC (l := L.set m { L[m] with kind := 1, link := [] }) (i := m) (j := 9) (v := .sl L[k].nl none (L[k].data.map u8)) (e := asReg L[m] L[k]) (by simpa using hmL) (by omega) (by simp only [List.getElem_set_self]; rfl)
        rw [List.set_set] at this
        exact this
      iterate 8 (first | refine wA ?_ | refine wB ?_ | refine wC rfl ?_ | refine wD rfl ?_ | refine wE ?_ | refine wF (by omega) ?_ | ((first | refine wG ?_ | refine wH ?_ | refine wI ?_ | refine wJ ?_ | refine wK ?_ | refine wL ?_); simp (disch := omega) only [wP, wZ, undef, UInt8.reduceToNat, Nat.reduceOr, Nat.reduceAnd, Nat.reduceXor, Nat.reduceDiv, if_pos, if_neg, aStore, frz, AV.flat, ↓reduceIte, ne_eq, reduceCtorEq, Int.reduceToNat, Nat.reduceEqDiff, Nat.reduceAdd, Nat.reduceSub, Nat.reduceMul, Int.reduceAdd, Int.reduceMul, Int.reduceSub, Int.reduceLT, Int.reduceLE, Int.reduceEq, Int.reduceNe, Nat.reduceLeDiff, Nat.reduceLT, Int.reduceNeg, Nat.reducePow, Nat.reduceMod, ByteArray.size, c1, q1, q9, length_enC, hlen, List.length_set, s1, s2, s3]))
      repeat refine And.intro (by omega) ?_
      obtain ⟨L', hL'⟩ : ∃ L', L' = L.set m (asReg L[m] L[k]) := ⟨_, rfl⟩
      have hnx : regL l (k + 1) = (L'.set k (asHard L[k] L[m].path), F) := by rw [hnext, hL']
      have g1 : L'.length = L.length := by rw [hL']; simp
      have g2 : L'[k]'(by omega) = L[k] := by simp only [hL']; rw [List.getElem_set_ne (by omega)]
      have g3 : (L'[m]'(by omega)).path = L[m].path := by simp only [hL', List.getElem_set_self]; rfl
    case' neg =>
      have q1 : decide (L[k].kind = 1) = false := decide_eq_false h1
      rw [if_neg h1] at hnext
      iterate 8 (first | refine wA ?_ | refine wB ?_ | refine wC rfl ?_ | refine wD rfl ?_ | refine wE ?_ | refine wF (by omega) ?_ | ((first | refine wG ?_ | refine wH ?_ | refine wI ?_ | refine wJ ?_ | refine wK ?_ | refine wL ?_); simp (disch := omega) only [wP, wZ, undef, UInt8.reduceToNat, Nat.reduceOr, Nat.reduceAnd, Nat.reduceXor, Nat.reduceDiv, if_pos, if_neg, aStore, frz, AV.flat, ↓reduceIte, ne_eq, reduceCtorEq, Int.reduceToNat, Nat.reduceEqDiff, Nat.reduceAdd, Nat.reduceSub, Nat.reduceMul, Int.reduceAdd, Int.reduceMul, Int.reduceSub, Int.reduceLT, Int.reduceLE, Int.reduceEq, Int.reduceNe, Nat.reduceLeDiff, Nat.reduceLT, Int.reduceNeg, Nat.reducePow, Nat.reduceMod, ByteArray.size, c1, q1, length_enC, hlen]))
      obtain ⟨L', hL'⟩ : ∃ L', L' = L := ⟨_, rfl⟩
      have hnx : regL l (k + 1) = (L'.set k (asHard L[k] L[m].path), F) := by rw [hnext, hL']
      have g1 : L'.length = L.length := by rw [hL']
      have g2 : L'[k]'(by omega) = L[k] := by simp only [hL']
      have g3 : (L'[m]'(by omega)).path = L[m].path := by simp only [hL']
    all_goals
      refine SWp.le (st' := mk 76 2 [(0, .own 1000 0 (some 10) 0 l.length), (2, .mp 8 1), (3, int k), (6, int m), (10, int l.length), (11, int k)] [(1000, 0, .row nl (enC L')), (8, 1, .row false [.tup (F.map fiM)])]) (le_mk rfl ?_ ?_ ?_) ?_
      · exact Nat.le_refl _
      iterate 2 (case _ => simp (disch := omega) only [wP, wZ, undef, UInt8.reduceToNat, Nat.reduceOr, Nat.reduceAnd, Nat.reduceXor, Nat.reduceDiv, if_pos, if_neg, aStore, frz, AV.flat, ↓reduceIte, ne_eq, reduceCtorEq, Int.reduceToNat, Nat.reduceEqDiff, Nat.reduceAdd, Nat.reduceSub, Nat.reduceMul, Int.reduceAdd, Int.reduceMul, Int.reduceSub, Int.reduceLT, Int.reduceLE, Int.reduceEq, Int.reduceNe, Nat.reduceLeDiff, Nat.reduceLT, Int.reduceNeg, Nat.reducePow, Nat.reduceMod, ByteArray.size, hL'])
      have hk2 : k < L'.length := by omega
      have hm2 : m < L'.length := by omega
      have c0 : (enC L').getD (m * 10) .junk = str L[m].path := by
        have := cell_enC (l := L') (i := m) (j := 0) hm2 (by omega)
        rw [← g3]
        exact this
      have s1 : (enC L').take (k * 10 + 1) ++ .sc (.int .i64 4) :: (enC L').drop (k * 10 + 1 + 1) = enC (L'.set k { L[k] with kind := 4 }) := store_enC hk2 (by omega) (by rw [g2]; rfl)
      have s2 : (enC (L'.set k { L[k] with kind := 4 })).take (k * 10 + 8) ++ .sc (.string ⟨L[m].path.toArray⟩) :: (enC (L'.set k { L[k] with kind := 4 })).drop (k * 10 + 8 + 1) = enC (L'.set k { L[k] with kind := 4, link := L[m].path }) := by
        have := store_enC (l := L'.set k { L[k] with kind := 4 }) (i := k) (j := 8) (v := str L[m].path) (e := { L[k] with kind := 4, link := L[m].path }) (by simpa using hk2) (by omega) (by simp only [List.getElem_set_self]; rfl)
        rw [List.set_set] at this
        exact this
      have s3 : (enC (L'.set k { L[k] with kind := 4, link := L[m].path })).take (k * 10 + 9) ++ .sl true none [] :: (enC (L'.set k { L[k] with kind := 4, link := L[m].path })).drop (k * 10 + 9 + 1) = enC (L'.set k (asHard L[k] L[m].path)) := by
        have := store_enC (l := L'.set k { L[k] with kind := 4, link := L[m].path }) (i := k) (j := 9) (v := .sl true none []) (e := asHard L[k] L[m].path) (by simpa using hk2) (by omega) (by simp only [List.getElem_set_self]; rfl)
        rw [List.set_set] at this
        exact this
      iterate 1 (first | refine wA ?_ | refine wB ?_ | refine wC rfl ?_ | refine wD rfl ?_ | refine wE ?_ | refine wF (by omega) ?_ | ((first | refine wG ?_ | refine wH ?_ | refine wI ?_ | refine wJ ?_ | refine wK ?_ | refine wL ?_); simp (disch := omega) only [wP, wZ, undef, UInt8.reduceToNat, Nat.reduceOr, Nat.reduceAnd, Nat.reduceXor, Nat.reduceDiv, if_pos, if_neg, aStore, frz, AV.flat, ↓reduceIte, ne_eq, reduceCtorEq, Int.reduceToNat, Nat.reduceEqDiff, Nat.reduceAdd, Nat.reduceSub, Nat.reduceMul, Int.reduceAdd, Int.reduceMul, Int.reduceSub, Int.reduceLT, Int.reduceLE, Int.reduceEq, Int.reduceNe, Nat.reduceLeDiff, Nat.reduceLT, Int.reduceNeg, Nat.reducePow, Nat.reduceMod, ByteArray.size, c0, length_enC, g1, hlen, List.length_set, s1, s2]))
      repeat refine And.intro (by omega) ?_
      refine SWp.reread 1000 0 (nl := nl) (cells := (enC (L'.set k { L[k] with kind := 4, link := L[m].path })).take (k * 10 + 9) ++ .sc (.slice none 0 0) :: (enC (L'.set k { L[k] with kind := 4, link := L[m].path })).drop (k * 10 + 9 + 1)) (enC (L'.set k (asHard L[k] L[m].path))) ?_ (fun c h => glL_of_free _ _ free_enC) (fun h => by simp at h) (fun G w vs h => by rw [← s3]; exact nil_rd h) ?_
      · simp (disch := omega) only [wP, wZ, undef, UInt8.reduceToNat, Nat.reduceOr, Nat.reduceAnd, Nat.reduceXor, Nat.reduceDiv, if_pos, if_neg, aStore, frz, AV.flat, ↓reduceIte, ne_eq, reduceCtorEq, Int.reduceToNat, Nat.reduceEqDiff, Nat.reduceAdd, Nat.reduceSub, Nat.reduceMul, Int.reduceAdd, Int.reduceMul, Int.reduceSub, Int.reduceLT, Int.reduceLE, Int.reduceEq, Int.reduceNe, Nat.reduceLeDiff, Nat.reduceLT, Int.reduceNeg, Nat.reducePow, Nat.reduceMod, ByteArray.size]
      refine SWp.le (st' := mk 76 2 [(0, .own 1000 0 (some 10) 0 l.length), (2, .mp 8 1), (10, int l.length), (11, int k)] [(1000, 0, .row nl (enC (L'.set k (asHard L[k] L[m].path)))), (8, 1, .row false [.tup (F.map fiM)])]) (le_mk rfl ?_ ?_ ?_) ?_
      · exact Nat.le_refl _
      iterate 2 (case _ => simp (disch := omega) only [wP, wZ, undef, UInt8.reduceToNat, Nat.reduceOr, Nat.reduceAnd, Nat.reduceXor, Nat.reduceDiv, if_pos, if_neg, aStore, frz, AV.flat, ↓reduceIte, ne_eq, reduceCtorEq, Int.reduceToNat, Nat.reduceEqDiff, Nat.reduceAdd, Nat.reduceSub, Nat.reduceMul, Int.reduceAdd, Int.reduceMul, Int.reduceSub, Int.reduceLT, Int.reduceLE, Int.reduceEq, Int.reduceNe, Nat.reduceLeDiff, Nat.reduceLT, Int.reduceNeg, Nat.reducePow, Nat.reduceMod, ByteArray.size])
      repeat (first | refine wA ?_ | refine wB ?_ | refine wC rfl ?_ | refine wD rfl ?_ | refine wE ?_ | refine wF (by omega) ?_ | ((first | refine wG ?_ | refine wH ?_ | refine wI ?_ | refine wJ ?_ | refine wK ?_ | refine wL ?_); simp (disch := omega) only [wP, wZ, undef, UInt8.reduceToNat, Nat.reduceOr, Nat.reduceAnd, Nat.reduceXor, Nat.reduceDiv, if_pos, if_neg, aStore, frz, AV.flat, ↓reduceIte, ne_eq, reduceCtorEq, Int.reduceToNat, Nat.reduceEqDiff, Nat.reduceAdd, Nat.reduceSub, Nat.reduceMul, Int.reduceAdd, Int.reduceMul, Int.reduceSub, Int.reduceLT, Int.reduceLE, Int.reduceEq, Int.reduceNe, Nat.reduceLeDiff, Nat.reduceLT, Int.reduceNeg, Nat.reducePow, Nat.reduceMod, ByteArray.size]))
      refine At.of (k + 1) (by omega) (by omega) rfl rfl (Nat.le_refl _) ?_ ?_
      · simp (disch := omega) only [wP, wZ, undef, UInt8.reduceToNat, Nat.reduceOr, Nat.reduceAnd, Nat.reduceXor, Nat.reduceDiv, if_pos, if_neg, aStore, frz, AV.flat, ↓reduceIte, ne_eq, reduceCtorEq, Int.reduceToNat, Nat.reduceEqDiff, Nat.reduceAdd, Nat.reduceSub, Nat.reduceMul, Int.reduceAdd, Int.reduceMul, Int.reduceSub, Int.reduceLT, Int.reduceLE, Int.reduceEq, Int.reduceNe, Nat.reduceLeDiff, Nat.reduceLT, Int.reduceNeg, Nat.reducePow, Nat.reduceMod, ByteArray.size]
      · rw [hnx]
        simp (disch := omega) only [wP, wZ, undef, UInt8.reduceToNat, Nat.reduceOr, Nat.reduceAnd, Nat.reduceXor, Nat.reduceDiv, if_pos, if_neg, aStore, frz, AV.flat, ↓reduceIte, ne_eq, reduceCtorEq, Int.reduceToNat, Nat.reduceEqDiff, Nat.reduceAdd, Nat.reduceSub, Nat.reduceMul, Int.reduceAdd, Int.reduceMul, Int.reduceSub, Int.reduceLT, Int.reduceLE, Int.reduceEq, Int.reduceNe, Nat.reduceLeDiff, Nat.reduceLT, Int.reduceNeg, Nat.reducePow, Nat.reduceMod, ByteArray.size]
end Go.Proofs.YtbmmdkbinlnogaaDoor.Aw
namespace Go.Proofs.YtbmmdkbinlnogaaDoor.Aw
open Go
set_option linter.unusedSimpArgs false
set_option linter.unusedVariables false
def KU : Nat := 1000020
def offB (M : List Ent) (p : List UInt8) : Bool := match findE p M with | some x => !decide (x.kind = 2) | none => false
def underB (M : List Ent) (s : List UInt8) : Bool := (upsN s s.length).any (offB M)
theorem any_takeS {α : Type} {f : α → Bool} {l : List α} {k : Nat} {x : α} (h : (l.take k).any f = false) (hx : l[k]? = some x) (hf : f x = false) : (l.take (k + 1)).any f = false := by
  rw [List.take_add_one, hx, List.any_append, h]
  simp [hf]
theorem ups_mem {s : List UInt8} : ∀ {n : Nat} {p : List UInt8}, p ∈ upsN s n → p.length ≤ s.length
  | 0, p, h => by simp [upsN] at h
  | n + 1, p, h => by
    rw [upsN] at h
    split at h
    · rcases List.mem_cons.1 h with rfl | h
      · exact List.length_take_le' _ _
      · exact ups_mem h
    · exact ups_mem h
theorem ups_short (s : List UInt8) (h : s.length ≤ 1000000) (p : List UInt8) (hp : p ∈ upsN s s.length) : p.length ≤ 1000000 := Nat.le_trans (ups_mem hp) h
theorem ups_len {s : List UInt8} : ∀ {n : Nat}, (upsN s n).length ≤ n
  | 0 => Nat.le_refl _
  | n + 1 => by
    have := ups_len (s := s) (n := n)
    rw [upsN]
    split <;> simp <;> omega
theorem z10 : zeroA (.agg #[.string ⟨#[]⟩, .int .i64 0, .int .i64 0, .int .i64 0, .int .i64 0, .string ⟨#[]⟩, .string ⟨#[]⟩, .int .i64 0, .string ⟨#[]⟩, .slice none 0 0]) = .agg [.sc (.string ⟨#[]⟩), .sc (.int .i64 0), .sc (.int .i64 0), .sc (.int .i64 0), .sc (.int .i64 0), .sc (.string ⟨#[]⟩), .sc (.string ⟨#[]⟩), .sc (.int .i64 0), .sc (.string ⟨#[]⟩), .sc (.slice none 0 0)] := rfl
set_option maxHeartbeats 2000000 in
set_option maxRecDepth 100000 in
theorem isUnderOther_h [Tabs Tryd.prog] (M : List Ent) (U : List (List UInt8)) (hM : ∀ e ∈ M, e.path.length ≤ 1000000) (e : Ent) (he : e.path.length ≤ 1000000) :
    HCon Tryd.prog n_entry_ahead_isUnderOther [.agg [.mp 1000 0, .mp 1001 0], entV e] (ahI M U) (boo (underB M e.path)) (ahO M U) (KU + 1) := by
  refine HCon.of' mix Tryd.func50 rfl Tryd.ntmps50 e_entry_ahead_isUnderOther r_entry_ahead_isUnderOther (by simp) ⟨by simp [AV.gl, AV.gl.glL], ent_gl⟩ ah_gl ?_
  unfold s_entry_ahead_isUnderOther
  obtain ⟨Z, hZ⟩ : ∃ Z, Z = underB M e.path := ⟨_, rfl⟩
  rw [← hZ]
  rw [underB] at hZ
  have hu := ents_enM hM
  repeat (first | refine wA ?_ | refine wB ?_ | refine wC rfl ?_ | refine wD rfl ?_ | refine wE ?_ | refine wF (by omega) ?_ | ((first | refine wG ?_ | refine wH ?_ | refine wI ?_ | refine wJ ?_ | refine wK ?_ | refine wL ?_); simp (disch := omega) only [wP, wZ, undef, UInt8.reduceToNat, Nat.reduceOr, Nat.reduceAnd, Nat.reduceXor, Nat.reduceDiv, if_pos, if_neg, aStore, frz, AV.flat, ↓reduceIte, ne_eq, reduceCtorEq, Int.reduceToNat, Nat.reduceEqDiff, Nat.reduceAdd, Nat.reduceSub, Nat.reduceMul, Int.reduceAdd, Int.reduceMul, Int.reduceSub, Int.reduceLT, Int.reduceLE, Int.reduceEq, Int.reduceNe, Nat.reduceLeDiff, Nat.reduceLT, Int.reduceNeg, Nat.reducePow, Nat.reduceMod, ByteArray.size, entV, entL]))
  refine goC_h [] 2000 (above_c e.path) (by simp) (by simp) (by simp [handOk]) (by simp [ren.renL, ren, str]) ?_
  repeat (first | refine wA ?_ | refine wB ?_ | refine wC rfl ?_ | refine wD rfl ?_ | refine wE ?_ | refine wF (by omega) ?_ | ((first | refine wG ?_ | refine wH ?_ | refine wI ?_ | refine wJ ?_ | refine wK ?_ | refine wL ?_); simp (disch := omega) only [wP, wZ, undef, UInt8.reduceToNat, Nat.reduceOr, Nat.reduceAnd, Nat.reduceXor, Nat.reduceDiv, if_pos, if_neg, aStore, frz, AV.flat, ↓reduceIte, ne_eq, reduceCtorEq, Int.reduceToNat, Nat.reduceEqDiff, Nat.reduceAdd, Nat.reduceSub, Nat.reduceMul, Int.reduceAdd, Int.reduceMul, Int.reduceSub, Int.reduceLT, Int.reduceLE, Int.reduceEq, Int.reduceNe, Nat.reduceLeDiff, Nat.reduceLT, Int.reduceNeg, Nat.reducePow, Nat.reduceMod, ByteArray.size]))
  refine SWp.le (st' := mk 25 6 [(2, .op 2 1 0), (4, .op 4 3 0), (10, .clo n_entry_above_1 [.op 2001 5 0])] [(1000, 0, .row false [.tup (M.map enM)]), (1001, 0, .row false [.tup (U.map upM)]), (2, 1, .row false [.mp 1000 0, .mp 1001 0]), (4, 3, .row false [.sc (.bool false)]), (2001, 5, .row false [str e.path])]) (le_mk rfl ?_ ?_ ?_) ?_
  iterate 3 (case _ => simp (disch := omega) only [wP, wZ, undef, UInt8.reduceToNat, Nat.reduceOr, Nat.reduceAnd, Nat.reduceXor, Nat.reduceDiv, if_pos, if_neg, aStore, frz, AV.flat, ↓reduceIte, ne_eq, reduceCtorEq, Int.reduceToNat, Nat.reduceEqDiff, Nat.reduceAdd, Nat.reduceSub, Nat.reduceMul, Int.reduceAdd, Int.reduceMul, Int.reduceSub, Int.reduceLT, Int.reduceLE, Int.reduceEq, Int.reduceNe, Nat.reduceLeDiff, Nat.reduceLT, Int.reduceNeg, Nat.reducePow, Nat.reduceMod, ByteArray.size])
  refine SWp.range (gf := n_entry_above_1) (caps := [.op 2001 5 0]) (hin := [(2001, 5, [str e.path])]) (xs := (upsN e.path e.path.length).map txt) (look [(2, .op 2 1 0), (4, .op 4 3 0)]) (fun g : Nat => (lookH [(1000, 0, .row false [.tup (M.map enM)]), (1001, 0, .row false [.tup (U.map upM)]), (2, 1, .row false [.mp 1000 0, .mp 1001 0]), (4, 3, .row false [.sc (.bool false)])], 6 + g)) (fun g k => ((upsN e.path e.path.length).take k).any (offB M) = false ∧ g ≤ k) 0 rfl (by kernel_rfl) ?_ (above_it 2001 5 e.path he) (by show 11 < 25; omega) ⟨rfl, Nat.le_refl _⟩ ?_ ?_ ?_ ?_
  · intro q hq
    simp only [List.mem_singleton] at hq
    subst hq
    rfl
  · refine le_mk rfl ?_ ?_ ?_
    iterate 3 (case _ => simp (disch := omega) only [wP, wZ, undef, UInt8.reduceToNat, Nat.reduceOr, Nat.reduceAnd, Nat.reduceXor, Nat.reduceDiv, if_pos, if_neg, aStore, frz, AV.flat, ↓reduceIte, ne_eq, reduceCtorEq, Int.reduceToNat, Nat.reduceEqDiff, Nat.reduceAdd, Nat.reduceSub, Nat.reduceMul, Int.reduceAdd, Int.reduceMul, Int.reduceSub, Int.reduceLT, Int.reduceLE, Int.reduceEq, Int.reduceNe, Nat.reduceLeDiff, Nat.reduceLT, Int.reduceNeg, Nat.reducePow, Nat.reduceMod, ByteArray.size])
  · intro q hq
    simp only [List.mem_singleton] at hq
    subst hq
    rfl
  · rintro L g k x ⟨hi, hgk⟩ hx
    show @SWp _ _ L _ _ (mk 25 (6 + g) [(11, .sc x), (2, .op 2 1 0), (4, .op 4 3 0)] [(1000, 0, .row false [.tup (M.map enM)]), (1001, 0, .row false [.tup (U.map upM)]), (2, 1, .row false [.mp 1000 0, .mp 1001 0]), (4, 3, .row false [.sc (.bool false)])])
    rw [List.getElem?_map] at hx
    obtain ⟨p, hp, rfl⟩ := Option.map_eq_some_iff.1 hx
    have hpl : p.length ≤ 1000000 := ups_short e.path he p (List.mem_of_getElem? hp)
    have hk := like_str hpl
    have hf := mfind_enM (p := p) (M := M)
    have hoff : offB M p = true → Z = true := fun h => by
      rw [hZ]
      exact List.any_eq_true.2 ⟨p, List.mem_of_getElem? hp, h⟩
    cases hc : findE p M with
    | none =>
      have ho : offB M p = false := by rw [offB, hc]
      rw [hc, Option.map_none] at hf
      repeat (first | refine wA ?_ | refine wB ?_ | refine wC rfl ?_ | refine wD rfl ?_ | refine wE ?_ | refine wF (by omega) ?_ | ((first | refine wG ?_ | refine wH ?_ | refine wI ?_ | refine wJ ?_ | refine wK ?_ | refine wL ?_); simp (disch := omega) only [wP, wZ, undef, UInt8.reduceToNat, Nat.reduceOr, Nat.reduceAnd, Nat.reduceXor, Nat.reduceDiv, if_pos, if_neg, aStore, frz, AV.flat, ↓reduceIte, ne_eq, reduceCtorEq, Int.reduceToNat, Nat.reduceEqDiff, Nat.reduceAdd, Nat.reduceSub, Nat.reduceMul, Int.reduceAdd, Int.reduceMul, Int.reduceSub, Int.reduceLT, Int.reduceLE, Int.reduceEq, Int.reduceNe, Nat.reduceLeDiff, Nat.reduceLT, Int.reduceNeg, Nat.reducePow, Nat.reduceMod, ByteArray.size, txt, boo, hf, hk, hu, Option.isSome_none, z10]))
      refine ⟨g + 1, ⟨any_takeS hi hp ho, by omega⟩, le_mk rfl ?_ ?_ ?_⟩
      · show 6 + g + 1 ≤ 6 + (g + 1); omega
      iterate 2 (case _ => simp (disch := omega) only [wP, wZ, undef, UInt8.reduceToNat, Nat.reduceOr, Nat.reduceAnd, Nat.reduceXor, Nat.reduceDiv, if_pos, if_neg, aStore, frz, AV.flat, ↓reduceIte, ne_eq, reduceCtorEq, Int.reduceToNat, Nat.reduceEqDiff, Nat.reduceAdd, Nat.reduceSub, Nat.reduceMul, Int.reduceAdd, Int.reduceMul, Int.reduceSub, Int.reduceLT, Int.reduceLE, Int.reduceEq, Int.reduceNe, Nat.reduceLeDiff, Nat.reduceLT, Int.reduceNeg, Nat.reducePow, Nat.reduceMod, ByteArray.size])
    | some y =>
      rw [hc, Option.map_some] at hf
      by_cases c2 : y.kind = 2
      · have v2 : decide (y.kind = 2) = true := decide_eq_true c2
        have ho : offB M p = false := by rw [offB, hc]; simp only [v2, Bool.not_true]
        repeat (first | refine wA ?_ | refine wB ?_ | refine wC rfl ?_ | refine wD rfl ?_ | refine wE ?_ | refine wF (by omega) ?_ | ((first | refine wG ?_ | refine wH ?_ | refine wI ?_ | refine wJ ?_ | refine wK ?_ | refine wL ?_); simp (disch := omega) only [wP, wZ, undef, UInt8.reduceToNat, Nat.reduceOr, Nat.reduceAnd, Nat.reduceXor, Nat.reduceDiv, if_pos, if_neg, aStore, frz, AV.flat, ↓reduceIte, ne_eq, reduceCtorEq, Int.reduceToNat, Nat.reduceEqDiff, Nat.reduceAdd, Nat.reduceSub, Nat.reduceMul, Int.reduceAdd, Int.reduceMul, Int.reduceSub, Int.reduceLT, Int.reduceLE, Int.reduceEq, Int.reduceNe, Nat.reduceLeDiff, Nat.reduceLT, Int.reduceNeg, Nat.reducePow, Nat.reduceMod, ByteArray.size, txt, boo, hf, hk, hu, Option.isSome_some, Option.getD_some, entV, entL, v2]))
        refine ⟨g + 1, ⟨any_takeS hi hp ho, by omega⟩, le_mk rfl ?_ ?_ ?_⟩
        · show 6 + g + 1 ≤ 6 + (g + 1); omega
        iterate 2 (case _ => simp (disch := omega) only [wP, wZ, undef, UInt8.reduceToNat, Nat.reduceOr, Nat.reduceAnd, Nat.reduceXor, Nat.reduceDiv, if_pos, if_neg, aStore, frz, AV.flat, ↓reduceIte, ne_eq, reduceCtorEq, Int.reduceToNat, Nat.reduceEqDiff, Nat.reduceAdd, Nat.reduceSub, Nat.reduceMul, Int.reduceAdd, Int.reduceMul, Int.reduceSub, Int.reduceLT, Int.reduceLE, Int.reduceEq, Int.reduceNe, Nat.reduceLeDiff, Nat.reduceLT, Int.reduceNeg, Nat.reducePow, Nat.reduceMod, ByteArray.size])
      · have v2 : decide (y.kind = 2) = false := decide_eq_false c2
        have ho : offB M p = true := by rw [offB, hc]; simp only [v2, Bool.not_false]
        have hz := hoff ho
        subst hz
        repeat (first | refine wA ?_ | refine wB ?_ | refine wC rfl ?_ | refine wD rfl ?_ | refine wE ?_ | refine wF (by omega) ?_ | ((first | refine wG ?_ | refine wH ?_ | refine wI ?_ | refine wJ ?_ | refine wK ?_ | refine wL ?_); simp (disch := omega) only [wP, wZ, undef, UInt8.reduceToNat, Nat.reduceOr, Nat.reduceAnd, Nat.reduceXor, Nat.reduceDiv, if_pos, if_neg, aStore, frz, AV.flat, ↓reduceIte, ne_eq, reduceCtorEq, Int.reduceToNat, Nat.reduceEqDiff, Nat.reduceAdd, Nat.reduceSub, Nat.reduceMul, Int.reduceAdd, Int.reduceMul, Int.reduceSub, Int.reduceLT, Int.reduceLE, Int.reduceEq, Int.reduceNe, Nat.reduceLeDiff, Nat.reduceLT, Int.reduceNeg, Nat.reducePow, Nat.reduceMod, ByteArray.size, txt, boo, hf, hk, hu, Option.isSome_some, Option.getD_some, entV, entL, v2]))
        rw [rq_ret]
        have hkk : k < (upsN e.path e.path.length).length := (List.getElem?_eq_some_iff.1 hp).1
        have hul := ups_len (s := e.path) (n := e.path.length)
        have hgs : 6 + g + 1 ≤ KU + 1 := by unfold KU; omega
        simp (disch := omega) only [wP, wZ, undef, UInt8.reduceToNat, Nat.reduceOr, Nat.reduceAnd, Nat.reduceXor, Nat.reduceDiv, if_pos, if_neg, aStore, frz, AV.flat, ↓reduceIte, ne_eq, reduceCtorEq, Int.reduceToNat, Nat.reduceEqDiff, Nat.reduceAdd, Nat.reduceSub, Nat.reduceMul, Int.reduceAdd, Int.reduceMul, Int.reduceSub, Int.reduceLT, Int.reduceLE, Int.reduceEq, Int.reduceNe, Nat.reduceLeDiff, Nat.reduceLT, Int.reduceNeg, Nat.reducePow, Nat.reduceMod, ByteArray.size, finH_ret]
        omega
  · rintro g ⟨hi, hg⟩
    rw [List.length_map] at hi hg
    rw [List.take_of_length_le (Nat.le_refl _)] at hi
    have hz : Z = false := by rw [hZ, hi]
    subst hz
    have hul := ups_len (s := e.path) (n := e.path.length)
    have hgs : 6 + g ≤ KU + 1 := by unfold KU; omega
    show @SWp _ _ _ _ _ (mk 25 (6 + g) [(2, .op 2 1 0), (4, .op 4 3 0)] [(1000, 0, .row false [.tup (M.map enM)]), (1001, 0, .row false [.tup (U.map upM)]), (2, 1, .row false [.mp 1000 0, .mp 1001 0]), (4, 3, .row false [.sc (.bool false)])])
    repeat (first | refine wA ?_ | refine wB ?_ | refine wC rfl ?_ | refine wD rfl ?_ | refine wE ?_ | refine wF (by omega) ?_ | ((first | refine wG ?_ | refine wH ?_ | refine wI ?_ | refine wJ ?_ | refine wK ?_ | refine wL ?_); simp (disch := omega) only [wP, wZ, undef, UInt8.reduceToNat, Nat.reduceOr, Nat.reduceAnd, Nat.reduceXor, Nat.reduceDiv, if_pos, if_neg, aStore, frz, AV.flat, ↓reduceIte, ne_eq, reduceCtorEq, Int.reduceToNat, Nat.reduceEqDiff, Nat.reduceAdd, Nat.reduceSub, Nat.reduceMul, Int.reduceAdd, Int.reduceMul, Int.reduceSub, Int.reduceLT, Int.reduceLE, Int.reduceEq, Int.reduceNe, Nat.reduceLeDiff, Nat.reduceLT, Int.reduceNeg, Nat.reducePow, Nat.reduceMod, ByteArray.size]))
    exact hgs
end Go.Proofs.YtbmmdkbinlnogaaDoor.Aw
namespace Go.Proofs.YtbmmdkbinlnogaaDoor.Aw
open Go
set_option linter.unusedSimpArgs false
set_option linter.unusedVariables false
def addU (U ps : List (List UInt8)) : List (List UInt8) := ps.foldl (fun V p => putU p V) U
theorem addU_next {U l : List (List UInt8)} {k : Nat} {p : List UInt8} (h : l[k]? = some p) : addU U (l.take (k + 1)) = putU p (addU U (l.take k)) := by
  rw [List.take_add_one, h]
  simp [addU, List.foldl_append]
theorem putU_all {P : List UInt8 → Prop} {p : List UInt8} {U : List (List UInt8)} (hU : ∀ q ∈ U, P q) (hp : P p) : ∀ q ∈ putU p U, P q := by
  intro q hq
  rw [putU] at hq
  split at hq
  · exact hU q hq
  · rcases List.mem_append.1 hq with h | h
    · exact hU q h
    · rw [List.mem_singleton.1 h]; exact hp
theorem addU_all {P : List UInt8 → Prop} : ∀ {l U : List (List UInt8)}, (∀ q ∈ U, P q) → (∀ q ∈ l, P q) → ∀ q ∈ addU U l, P q
  | [], _, hU, _ => hU
  | p :: l, U, hU, hl => by
    rw [addU, List.foldl_cons]
    exact addU_all (putU_all hU (hl p (by simp))) (fun q hq => hl q (by simp [hq]))
set_option maxHeartbeats 2000000 in
set_option maxRecDepth 100000 in
theorem add_h [Tabs Tryd.prog] (M : List Ent) (U : List (List UInt8)) (hM : ∀ e ∈ M, e.path.length ≤ 1000000) (hU : ∀ p ∈ U, p.length ≤ 1000000) (e : Ent) (he : e.path.length ≤ 1000000) (hn : findE e.path M = none) :
    HCon Tryd.prog n_entry_ahead_add [.agg [.mp 1000 0, .mp 1001 0], entV e] (ahI M U) (.tup []) (ahO (M ++ [e]) (addU U (upsN e.path e.path.length))) 10 := by
  refine HCon.of' mix Tryd.func31 rfl Tryd.ntmps31 e_entry_ahead_add r_entry_ahead_add (by simp) ⟨by simp [AV.gl, AV.gl.glL], ent_gl⟩ ah_gl ?_
  unfold s_entry_ahead_add
  obtain ⟨V, hV⟩ : ∃ V, V = addU U (upsN e.path e.path.length) := ⟨_, rfl⟩
  rw [← hV]
  have hu := ents_enM hM
  have hk := like_str he
  have hm := mput_enM hn
  rw [entV, entL] at hm
  simp only [str, int] at hm
  repeat (first | refine wA ?_ | refine wB ?_ | refine wC rfl ?_ | refine wD rfl ?_ | refine wE ?_ | refine wF (by omega) ?_ | ((first | refine wG ?_ | refine wH ?_ | refine wI ?_ | refine wJ ?_ | refine wK ?_ | refine wL ?_); simp (disch := omega) only [wP, wZ, undef, UInt8.reduceToNat, Nat.reduceOr, Nat.reduceAnd, Nat.reduceXor, Nat.reduceDiv, if_pos, if_neg, aStore, frz, AV.flat, ↓reduceIte, ne_eq, reduceCtorEq, Int.reduceToNat, Nat.reduceEqDiff, Nat.reduceAdd, Nat.reduceSub, Nat.reduceMul, Int.reduceAdd, Int.reduceMul, Int.reduceSub, Int.reduceLT, Int.reduceLE, Int.reduceEq, Int.reduceNe, Nat.reduceLeDiff, Nat.reduceLT, Int.reduceNeg, Nat.reducePow, Nat.reduceMod, ByteArray.size, entV, entL, hu, hk, hm]))
  refine goC_h [] 2000 (above_c e.path) (by simp) (by simp) (by simp [handOk]) (by simp [ren.renL, ren, str]) ?_
  repeat (first | refine wA ?_ | refine wB ?_ | refine wC rfl ?_ | refine wD rfl ?_ | refine wE ?_ | refine wF (by omega) ?_ | ((first | refine wG ?_ | refine wH ?_ | refine wI ?_ | refine wJ ?_ | refine wK ?_ | refine wL ?_); simp (disch := omega) only [wP, wZ, undef, UInt8.reduceToNat, Nat.reduceOr, Nat.reduceAnd, Nat.reduceXor, Nat.reduceDiv, if_pos, if_neg, aStore, frz, AV.flat, ↓reduceIte, ne_eq, reduceCtorEq, Int.reduceToNat, Nat.reduceEqDiff, Nat.reduceAdd, Nat.reduceSub, Nat.reduceMul, Int.reduceAdd, Int.reduceMul, Int.reduceSub, Int.reduceLT, Int.reduceLE, Int.reduceEq, Int.reduceNe, Nat.reduceLeDiff, Nat.reduceLT, Int.reduceNeg, Nat.reducePow, Nat.reduceMod, ByteArray.size]))
  refine SWp.le (st' := mk 18 5 [(2, .op 2 1 0), (12, .clo n_entry_above_1 [.op 2001 4 0])] [(1000, 0, .row false [.tup ((M ++ [e]).map enM)]), (1001, 0, .row false [.tup (U.map upM)]), (2, 1, .row false [.mp 1000 0, .mp 1001 0]), (2001, 4, .row false [str e.path])]) (le_mk rfl ?_ ?_ ?_) ?_
  iterate 2 (case _ => simp (disch := omega) only [wP, wZ, undef, UInt8.reduceToNat, Nat.reduceOr, Nat.reduceAnd, Nat.reduceXor, Nat.reduceDiv, if_pos, if_neg, aStore, frz, AV.flat, ↓reduceIte, ne_eq, reduceCtorEq, Int.reduceToNat, Nat.reduceEqDiff, Nat.reduceAdd, Nat.reduceSub, Nat.reduceMul, Int.reduceAdd, Int.reduceMul, Int.reduceSub, Int.reduceLT, Int.reduceLE, Int.reduceEq, Int.reduceNe, Nat.reduceLeDiff, Nat.reduceLT, Int.reduceNeg, Nat.reducePow, Nat.reduceMod, ByteArray.size])
  · simp (disch := omega) only [wP, wZ, undef, UInt8.reduceToNat, Nat.reduceOr, Nat.reduceAnd, Nat.reduceXor, Nat.reduceDiv, if_pos, if_neg, aStore, frz, AV.flat, ↓reduceIte, ne_eq, reduceCtorEq, Int.reduceToNat, Nat.reduceEqDiff, Nat.reduceAdd, Nat.reduceSub, Nat.reduceMul, Int.reduceAdd, Int.reduceMul, Int.reduceSub, Int.reduceLT, Int.reduceLE, Int.reduceEq, Int.reduceNe, Nat.reduceLeDiff, Nat.reduceLT, Int.reduceNeg, Nat.reducePow, Nat.reduceMod, ByteArray.size]
    done
  refine SWp.range (gf := n_entry_above_1) (caps := [.op 2001 4 0]) (hin := [(2001, 4, [str e.path])]) (xs := (upsN e.path e.path.length).map txt) (look [(2, .op 2 1 0)]) (fun W : List (List UInt8) => (lookH [(1000, 0, .row false [.tup ((M ++ [e]).map enM)]), (1001, 0, .row false [.tup (W.map upM)]), (2, 1, .row false [.mp 1000 0, .mp 1001 0])], 5)) (fun W k => W = addU U ((upsN e.path e.path.length).take k)) U rfl (by kernel_rfl) ?_ (above_it 2001 4 e.path he) (by show 13 < 18; omega) rfl ?_ ?_ ?_ ?_
  · intro q hq
    simp only [List.mem_singleton] at hq
    subst hq
    rfl
  · refine le_mk rfl ?_ ?_ ?_
    iterate 3 (case _ => simp (disch := omega) only [wP, wZ, undef, UInt8.reduceToNat, Nat.reduceOr, Nat.reduceAnd, Nat.reduceXor, Nat.reduceDiv, if_pos, if_neg, aStore, frz, AV.flat, ↓reduceIte, ne_eq, reduceCtorEq, Int.reduceToNat, Nat.reduceEqDiff, Nat.reduceAdd, Nat.reduceSub, Nat.reduceMul, Int.reduceAdd, Int.reduceMul, Int.reduceSub, Int.reduceLT, Int.reduceLE, Int.reduceEq, Int.reduceNe, Nat.reduceLeDiff, Nat.reduceLT, Int.reduceNeg, Nat.reducePow, Nat.reduceMod, ByteArray.size])
  · intro q hq
    simp only [List.mem_singleton] at hq
    subst hq
    rfl
  · rintro L W k x hi hx
    show @SWp _ _ L _ _ (mk 18 5 [(13, .sc x), (2, .op 2 1 0)] [(1000, 0, .row false [.tup ((M ++ [e]).map enM)]), (1001, 0, .row false [.tup (W.map upM)]), (2, 1, .row false [.mp 1000 0, .mp 1001 0])])
    rw [List.getElem?_map] at hx
    obtain ⟨p, hp, rfl⟩ := Option.map_eq_some_iff.1 hx
    have hpl : p.length ≤ 1000000 := ups_short e.path he p (List.mem_of_getElem? hp)
    have hk2 := like_str hpl
    have hW : ∀ q ∈ W, q.length ≤ 1000000 := by
      rw [hi]
      exact addU_all hU (fun q hq => ups_short e.path he q (List.mem_of_mem_take hq))
    have hu2 := ents_upM hW
    have hm2 := mput_upM (p := p) (U := W)
    repeat (first | refine wA ?_ | refine wB ?_ | refine wC rfl ?_ | refine wD rfl ?_ | refine wE ?_ | refine wF (by omega) ?_ | ((first | refine wG ?_ | refine wH ?_ | refine wI ?_ | refine wJ ?_ | refine wK ?_ | refine wL ?_); simp (disch := omega) only [wP, wZ, undef, UInt8.reduceToNat, Nat.reduceOr, Nat.reduceAnd, Nat.reduceXor, Nat.reduceDiv, if_pos, if_neg, aStore, frz, AV.flat, ↓reduceIte, ne_eq, reduceCtorEq, Int.reduceToNat, Nat.reduceEqDiff, Nat.reduceAdd, Nat.reduceSub, Nat.reduceMul, Int.reduceAdd, Int.reduceMul, Int.reduceSub, Int.reduceLT, Int.reduceLE, Int.reduceEq, Int.reduceNe, Nat.reduceLeDiff, Nat.reduceLT, Int.reduceNeg, Nat.reducePow, Nat.reduceMod, ByteArray.size, txt, hu2, hk2, hm2]))
    refine ⟨putU p W, by show putU p W = _; rw [addU_next hp, hi], le_mk rfl ?_ ?_ ?_⟩
    iterate 3 (case _ => simp (disch := omega) only [wP, wZ, undef, UInt8.reduceToNat, Nat.reduceOr, Nat.reduceAnd, Nat.reduceXor, Nat.reduceDiv, if_pos, if_neg, aStore, frz, AV.flat, ↓reduceIte, ne_eq, reduceCtorEq, Int.reduceToNat, Nat.reduceEqDiff, Nat.reduceAdd, Nat.reduceSub, Nat.reduceMul, Int.reduceAdd, Int.reduceMul, Int.reduceSub, Int.reduceLT, Int.reduceLE, Int.reduceEq, Int.reduceNe, Nat.reduceLeDiff, Nat.reduceLT, Int.reduceNeg, Nat.reducePow, Nat.reduceMod, ByteArray.size])
  · rintro W hi
    rw [List.length_map, List.take_of_length_le (Nat.le_refl _), ← hV] at hi
    subst hi
    simp (disch := omega) only [wP, wZ, undef, UInt8.reduceToNat, Nat.reduceOr, Nat.reduceAnd, Nat.reduceXor, Nat.reduceDiv, if_pos, if_neg, aStore, frz, AV.flat, ↓reduceIte, ne_eq, reduceCtorEq, Int.reduceToNat, Nat.reduceEqDiff, Nat.reduceAdd, Nat.reduceSub, Nat.reduceMul, Int.reduceAdd, Int.reduceMul, Int.reduceSub, Int.reduceLT, Int.reduceLE, Int.reduceEq, Int.reduceNe, Nat.reduceLeDiff, Nat.reduceLT, Int.reduceNeg, Nat.reducePow, Nat.reduceMod, ByteArray.size, inb, finH_normal]
    rfl
end Go.Proofs.YtbmmdkbinlnogaaDoor.Aw
namespace Go.Proofs.YtbmmdkbinlnogaaDoor.Aw
open Go
set_option linter.unusedSimpArgs false
set_option linter.unusedVariables false
def restV (M : List Ent) (U : List (List UInt8)) (e : Ent) : Int := if underB M e.path = true then 9 else if (decide (e.path ∈ U) && !decide (e.kind = 2)) = true then 9 else 0
def ahdV (M : List Ent) (U : List (List UInt8)) (e : Ent) : Int := if chk e = 0 then (match findE e.path M with | some _ => 8 | none => if e.kind = 4 then (match findE e.link M with | none => 15 | some f => if f.kind = 1 then if alikeB e f = true then restV M U e else 1 else 15) else restV M U e) else chk e
theorem renL_enM {ρ : Nat → Nat → Nat × Nat} {M : List Ent} : ren.renL ρ (M.map enM) = M.map enM := renL_free ρ _ free_enM
theorem renL_upM {ρ : Nat → Nat → Nat × Nat} {U : List (List UInt8)} : ren.renL ρ (U.map upM) = U.map upM := renL_free ρ _ free_upM
theorem findE_mem {p : List UInt8} : ∀ {M : List Ent} {f : Ent}, findE p M = some f → f ∈ M
  | x :: M, f, h => by
    rw [findE] at h
    split at h
    · cases h; simp
    · exact List.mem_cons_of_mem _ (findE_mem h)
set_option maxHeartbeats 4000000 in
set_option maxRecDepth 100000 in
theorem check_h [Tabs Tryd.prog] (hca : CaOk) (M : List Ent) (U : List (List UInt8)) (hM : ∀ e ∈ M, entS e ∧ entI e) (hU : ∀ p ∈ U, p.length ≤ 1000000) (e : Ent) (he : entS e) (hI : entI e) :
    HCon Tryd.prog n_entry_ahead_check [.agg [.mp 1000 0, .mp 1001 0], entV e] (ahI M U) (int (ahdV M U e)) (ahO M U) (KU + 100) := by
  obtain ⟨s1, s2, s3, s4, s5⟩ := id he
  refine HCon.of' mix Tryd.func30 rfl Tryd.ntmps30 e_entry_ahead_check r_entry_ahead_check (by simp) ⟨by simp [AV.gl, AV.gl.glL], ent_gl⟩ ah_gl ?_
  unfold s_entry_ahead_check
  obtain ⟨Z, hZ⟩ : ∃ Z, Z = ahdV M U e := ⟨_, rfl⟩
  rw [← hZ]
  rw [ahdV] at hZ
  have hMp : ∀ x ∈ M, x.path.length ≤ 1000000 := fun x hx => (hM x hx).1.1
  have hu := ents_enM hMp
  have hk1 := like_str s1
  have hk4 := like_str s4
  have hf1 := mfind_enM (p := e.path) (M := M)
  have hf4 := mfind_enM (p := e.link) (M := M)
  repeat (first | refine wA ?_ | refine wB ?_ | refine wC rfl ?_ | refine wD rfl ?_ | refine wE ?_ | refine wF (by omega) ?_ | ((first | refine wG ?_ | refine wH ?_ | refine wI ?_ | refine wJ ?_ | refine wK ?_ | refine wL ?_); simp (disch := omega) only [wP, wZ, undef, UInt8.reduceToNat, Nat.reduceOr, Nat.reduceAnd, Nat.reduceXor, Nat.reduceDiv, if_pos, if_neg, aStore, frz, AV.flat, ↓reduceIte, ne_eq, reduceCtorEq, Int.reduceToNat, Nat.reduceEqDiff, Nat.reduceAdd, Nat.reduceSub, Nat.reduceMul, Int.reduceAdd, Int.reduceMul, Int.reduceSub, Int.reduceLT, Int.reduceLE, Int.reduceEq, Int.reduceNe, Nat.reduceLeDiff, Nat.reduceLT, Int.reduceNeg, Nat.reducePow, Nat.reduceMod, ByteArray.size, entV, entL]))
  refine goC_p _ (.inl ⟨free_entV, Check_c hca e he⟩) ?_
  by_cases h0 : chk e = 0
  case neg =>
    have d0 : decide (chk e = 0) = false := decide_eq_false h0
    rw [if_neg h0] at hZ
    subst hZ
    repeat (first | refine wA ?_ | refine wB ?_ | refine wC rfl ?_ | refine wD rfl ?_ | refine wE ?_ | refine wF (by omega) ?_ | ((first | refine wG ?_ | refine wH ?_ | refine wI ?_ | refine wJ ?_ | refine wK ?_ | refine wL ?_); simp (disch := omega) only [wP, wZ, undef, UInt8.reduceToNat, Nat.reduceOr, Nat.reduceAnd, Nat.reduceXor, Nat.reduceDiv, if_pos, if_neg, aStore, frz, AV.flat, ↓reduceIte, ne_eq, reduceCtorEq, Int.reduceToNat, Nat.reduceEqDiff, Nat.reduceAdd, Nat.reduceSub, Nat.reduceMul, Int.reduceAdd, Int.reduceMul, Int.reduceSub, Int.reduceLT, Int.reduceLE, Int.reduceEq, Int.reduceNe, Nat.reduceLeDiff, Nat.reduceLT, Int.reduceNeg, Nat.reducePow, Nat.reduceMod, ByteArray.size, d0]))
  have d0 : decide (chk e = 0) = true := decide_eq_true h0
  rw [if_pos h0] at hZ
  cases g1 : findE e.path M with
  | some y =>
    rw [g1] at hZ
    rw [g1, Option.map_some] at hf1
    simp only at hZ
    subst hZ
    repeat (first | refine wA ?_ | refine wB ?_ | refine wC rfl ?_ | refine wD rfl ?_ | refine wE ?_ | refine wF (by omega) ?_ | ((first | refine wG ?_ | refine wH ?_ | refine wI ?_ | refine wJ ?_ | refine wK ?_ | refine wL ?_); simp (disch := omega) only [wP, wZ, undef, UInt8.reduceToNat, Nat.reduceOr, Nat.reduceAnd, Nat.reduceXor, Nat.reduceDiv, if_pos, if_neg, aStore, frz, AV.flat, ↓reduceIte, ne_eq, reduceCtorEq, Int.reduceToNat, Nat.reduceEqDiff, Nat.reduceAdd, Nat.reduceSub, Nat.reduceMul, Int.reduceAdd, Int.reduceMul, Int.reduceSub, Int.reduceLT, Int.reduceLE, Int.reduceEq, Int.reduceNe, Nat.reduceLeDiff, Nat.reduceLT, Int.reduceNeg, Nat.reducePow, Nat.reduceMod, ByteArray.size, boo, d0, hf1, hk1, hu, Option.isSome_some, Option.getD_some, entV, entL]))
    done
  | none =>
    rw [g1] at hZ
    rw [g1, Option.map_none] at hf1
    simp only at hZ
    by_cases h4 : e.kind = 4
    case' pos =>
      have d4 : decide (e.kind = 4) = true := decide_eq_true h4
      rw [if_pos h4] at hZ
      cases g2 : findE e.link M
      case none =>
        rw [g2] at hZ
        rw [g2, Option.map_none] at hf4
        simp only at hZ
        subst hZ
        repeat (first | refine wA ?_ | refine wB ?_ | refine wC rfl ?_ | refine wD rfl ?_ | refine wE ?_ | refine wF (by omega) ?_ | ((first | refine wG ?_ | refine wH ?_ | refine wI ?_ | refine wJ ?_ | refine wK ?_ | refine wL ?_); simp (disch := omega) only [wP, wZ, undef, UInt8.reduceToNat, Nat.reduceOr, Nat.reduceAnd, Nat.reduceXor, Nat.reduceDiv, if_pos, if_neg, aStore, frz, AV.flat, ↓reduceIte, ne_eq, reduceCtorEq, Int.reduceToNat, Nat.reduceEqDiff, Nat.reduceAdd, Nat.reduceSub, Nat.reduceMul, Int.reduceAdd, Int.reduceMul, Int.reduceSub, Int.reduceLT, Int.reduceLE, Int.reduceEq, Int.reduceNe, Nat.reduceLeDiff, Nat.reduceLT, Int.reduceNeg, Nat.reducePow, Nat.reduceMod, ByteArray.size, boo, d0, d4, hf1, hk1, hf4, hk4, hu, Option.isSome_none, z10, entV, entL]))
        done
      case' some f =>
        rw [g2] at hZ
        rw [g2, Option.map_some] at hf4
        simp only at hZ
        have hfm := hM f (findE_mem g2)
        by_cases h6 : f.kind = 1
        case neg =>
          have d6 : decide (f.kind = 1) = false := decide_eq_false h6
          rw [if_neg h6] at hZ
          subst hZ
          repeat (first | refine wA ?_ | refine wB ?_ | refine wC rfl ?_ | refine wD rfl ?_ | refine wE ?_ | refine wF (by omega) ?_ | ((first | refine wG ?_ | refine wH ?_ | refine wI ?_ | refine wJ ?_ | refine wK ?_ | refine wL ?_); simp (disch := omega) only [wP, wZ, undef, UInt8.reduceToNat, Nat.reduceOr, Nat.reduceAnd, Nat.reduceXor, Nat.reduceDiv, if_pos, if_neg, aStore, frz, AV.flat, ↓reduceIte, ne_eq, reduceCtorEq, Int.reduceToNat, Nat.reduceEqDiff, Nat.reduceAdd, Nat.reduceSub, Nat.reduceMul, Int.reduceAdd, Int.reduceMul, Int.reduceSub, Int.reduceLT, Int.reduceLE, Int.reduceEq, Int.reduceNe, Nat.reduceLeDiff, Nat.reduceLT, Int.reduceNeg, Nat.reducePow, Nat.reduceMod, ByteArray.size, boo, d0, d4, d6, hf1, hk1, hf4, hk4, hu, Option.isSome_none, Option.isSome_some, Option.getD_some, z10, entV, entL]))
          done
        have d6 : decide (f.kind = 1) = true := decide_eq_true h6
        rw [if_pos h6] at hZ
        repeat (first | refine wA ?_ | refine wB ?_ | refine wC rfl ?_ | refine wD rfl ?_ | refine wE ?_ | refine wF (by omega) ?_ | ((first | refine wG ?_ | refine wH ?_ | refine wI ?_ | refine wJ ?_ | refine wK ?_ | refine wL ?_); simp (disch := omega) only [wP, wZ, undef, UInt8.reduceToNat, Nat.reduceOr, Nat.reduceAnd, Nat.reduceXor, Nat.reduceDiv, if_pos, if_neg, aStore, frz, AV.flat, ↓reduceIte, ne_eq, reduceCtorEq, Int.reduceToNat, Nat.reduceEqDiff, Nat.reduceAdd, Nat.reduceSub, Nat.reduceMul, Int.reduceAdd, Int.reduceMul, Int.reduceSub, Int.reduceLT, Int.reduceLE, Int.reduceEq, Int.reduceNe, Nat.reduceLeDiff, Nat.reduceLT, Int.reduceNeg, Nat.reducePow, Nat.reduceMod, ByteArray.size, boo, d0, d4, d6, hf1, hk1, hf4, hk4, hu, Option.isSome_none, Option.isSome_some, Option.getD_some, z10, entV, entL]))
        refine goC_p _ (.inl ⟨free_entV, rightsOf_c e⟩) ?_
        repeat (first | refine wA ?_ | refine wB ?_ | refine wC rfl ?_ | refine wD rfl ?_ | refine wE ?_ | refine wF (by omega) ?_ | ((first | refine wG ?_ | refine wH ?_ | refine wI ?_ | refine wJ ?_ | refine wK ?_ | refine wL ?_); simp (disch := omega) only [wP, wZ, undef, UInt8.reduceToNat, Nat.reduceOr, Nat.reduceAnd, Nat.reduceXor, Nat.reduceDiv, if_pos, if_neg, aStore, frz, AV.flat, ↓reduceIte, ne_eq, reduceCtorEq, Int.reduceToNat, Nat.reduceEqDiff, Nat.reduceAdd, Nat.reduceSub, Nat.reduceMul, Int.reduceAdd, Int.reduceMul, Int.reduceSub, Int.reduceLT, Int.reduceLE, Int.reduceEq, Int.reduceNe, Nat.reduceLeDiff, Nat.reduceLT, Int.reduceNeg, Nat.reducePow, Nat.reduceMod, ByteArray.size, entL]))
        refine goC_p _ (.inl ⟨free_entV, rightsOf_c f⟩) ?_
        have l1 := like_rgt hI s2 s3
        have l2 := like_rgt hfm.2 hfm.1.2.1 hfm.1.2.2.1
        have hq := eqB_rgt (a := e) (b := f)
        cases h7 : alikeB e f
        · rw [h7, if_neg (by decide)] at hZ
          rw [h7] at hq
          subst hZ
          repeat (first | refine wA ?_ | refine wB ?_ | refine wC rfl ?_ | refine wD rfl ?_ | refine wE ?_ | refine wF (by omega) ?_ | ((first | refine wG ?_ | refine wH ?_ | refine wI ?_ | refine wJ ?_ | refine wK ?_ | refine wL ?_); simp (disch := omega) only [wP, wZ, undef, UInt8.reduceToNat, Nat.reduceOr, Nat.reduceAnd, Nat.reduceXor, Nat.reduceDiv, if_pos, if_neg, aStore, frz, AV.flat, ↓reduceIte, ne_eq, reduceCtorEq, Int.reduceToNat, Nat.reduceEqDiff, Nat.reduceAdd, Nat.reduceSub, Nat.reduceMul, Int.reduceAdd, Int.reduceMul, Int.reduceSub, Int.reduceLT, Int.reduceLE, Int.reduceEq, Int.reduceNe, Nat.reduceLeDiff, Nat.reduceLT, Int.reduceNeg, Nat.reducePow, Nat.reduceMod, ByteArray.size, boo, l1, l2, hq]))
          done
        rw [h7, if_pos rfl] at hZ
        rw [h7] at hq
        repeat (first | refine wA ?_ | refine wB ?_ | refine wC rfl ?_ | refine wD rfl ?_ | refine wE ?_ | refine wF (by omega) ?_ | ((first | refine wG ?_ | refine wH ?_ | refine wI ?_ | refine wJ ?_ | refine wK ?_ | refine wL ?_); simp (disch := omega) only [wP, wZ, undef, UInt8.reduceToNat, Nat.reduceOr, Nat.reduceAnd, Nat.reduceXor, Nat.reduceDiv, if_pos, if_neg, aStore, frz, AV.flat, ↓reduceIte, ne_eq, reduceCtorEq, Int.reduceToNat, Nat.reduceEqDiff, Nat.reduceAdd, Nat.reduceSub, Nat.reduceMul, Int.reduceAdd, Int.reduceMul, Int.reduceSub, Int.reduceLT, Int.reduceLE, Int.reduceEq, Int.reduceNe, Nat.reduceLeDiff, Nat.reduceLT, Int.reduceNeg, Nat.reducePow, Nat.reduceMod, ByteArray.size, boo, l1, l2, hq, entL]))
    case' neg =>
      have d4 : decide (e.kind = 4) = false := decide_eq_false h4
      rw [if_neg h4] at hZ
      repeat (first | refine wA ?_ | refine wB ?_ | refine wC rfl ?_ | refine wD rfl ?_ | refine wE ?_ | refine wF (by omega) ?_ | ((first | refine wG ?_ | refine wH ?_ | refine wI ?_ | refine wJ ?_ | refine wK ?_ | refine wL ?_); simp (disch := omega) only [wP, wZ, undef, UInt8.reduceToNat, Nat.reduceOr, Nat.reduceAnd, Nat.reduceXor, Nat.reduceDiv, if_pos, if_neg, aStore, frz, AV.flat, ↓reduceIte, ne_eq, reduceCtorEq, Int.reduceToNat, Nat.reduceEqDiff, Nat.reduceAdd, Nat.reduceSub, Nat.reduceMul, Int.reduceAdd, Int.reduceMul, Int.reduceSub, Int.reduceLT, Int.reduceLE, Int.reduceEq, Int.reduceNe, Nat.reduceLeDiff, Nat.reduceLT, Int.reduceNeg, Nat.reducePow, Nat.reduceMod, ByteArray.size, boo, d0, d4, hf1, hk1, hu, Option.isSome_none, z10, entV, entL]))
    all_goals
      rw [restV] at hZ
      refine goC_h [(1000, 0), (1001, 0)] 3000 (isUnderOther_h M U hMp e s1) (by simp) (by simp) ?_ ?_ ?_
      · simp (disch := omega) only [wP, wZ, undef, UInt8.reduceToNat, Nat.reduceOr, Nat.reduceAnd, Nat.reduceXor, Nat.reduceDiv, if_pos, if_neg, aStore, frz, AV.flat, ↓reduceIte, ne_eq, reduceCtorEq, Int.reduceToNat, Nat.reduceEqDiff, Nat.reduceAdd, Nat.reduceSub, Nat.reduceMul, Int.reduceAdd, Int.reduceMul, Int.reduceSub, Int.reduceLT, Int.reduceLE, Int.reduceEq, Int.reduceNe, Nat.reduceLeDiff, Nat.reduceLT, Int.reduceNeg, Nat.reducePow, Nat.reduceMod, ByteArray.size, renL_enM, renL_upM]
      · simp (disch := omega) only [wP, wZ, undef, UInt8.reduceToNat, Nat.reduceOr, Nat.reduceAnd, Nat.reduceXor, Nat.reduceDiv, if_pos, if_neg, aStore, frz, AV.flat, ↓reduceIte, ne_eq, reduceCtorEq, Int.reduceToNat, Nat.reduceEqDiff, Nat.reduceAdd, Nat.reduceSub, Nat.reduceMul, Int.reduceAdd, Int.reduceMul, Int.reduceSub, Int.reduceLT, Int.reduceLE, Int.reduceEq, Int.reduceNe, Nat.reduceLeDiff, Nat.reduceLT, Int.reduceNeg, Nat.reducePow, Nat.reduceMod, ByteArray.size, entV, entL, renL_free _ _ free_u8]
        done
      cases c1 : underB M e.path
      case true =>
        rw [c1, if_pos rfl] at hZ
        subst hZ
        repeat (first | refine wA ?_ | refine wB ?_ | refine wC rfl ?_ | refine wD rfl ?_ | refine wE ?_ | refine wF (by omega) ?_ | ((first | refine wG ?_ | refine wH ?_ | refine wI ?_ | refine wJ ?_ | refine wK ?_ | refine wL ?_); simp (disch := omega) only [wP, wZ, undef, UInt8.reduceToNat, Nat.reduceOr, Nat.reduceAnd, Nat.reduceXor, Nat.reduceDiv, if_pos, if_neg, aStore, frz, AV.flat, ↓reduceIte, ne_eq, reduceCtorEq, Int.reduceToNat, Nat.reduceEqDiff, Nat.reduceAdd, Nat.reduceSub, Nat.reduceMul, Int.reduceAdd, Int.reduceMul, Int.reduceSub, Int.reduceLT, Int.reduceLE, Int.reduceEq, Int.reduceNe, Nat.reduceLeDiff, Nat.reduceLT, Int.reduceNeg, Nat.reducePow, Nat.reduceMod, ByteArray.size, boo, renL_enM, renL_upM]))
        omega
      rw [c1, if_neg (by decide)] at hZ
      repeat (first | refine wA ?_ | refine wB ?_ | refine wC rfl ?_ | refine wD rfl ?_ | refine wE ?_ | refine wF (by omega) ?_ | ((first | refine wG ?_ | refine wH ?_ | refine wI ?_ | refine wJ ?_ | refine wK ?_ | refine wL ?_); simp (disch := omega) only [wP, wZ, undef, UInt8.reduceToNat, Nat.reduceOr, Nat.reduceAnd, Nat.reduceXor, Nat.reduceDiv, if_pos, if_neg, aStore, frz, AV.flat, ↓reduceIte, ne_eq, reduceCtorEq, Int.reduceToNat, Nat.reduceEqDiff, Nat.reduceAdd, Nat.reduceSub, Nat.reduceMul, Int.reduceAdd, Int.reduceMul, Int.reduceSub, Int.reduceLT, Int.reduceLE, Int.reduceEq, Int.reduceNe, Nat.reduceLeDiff, Nat.reduceLT, Int.reduceNeg, Nat.reducePow, Nat.reduceMod, ByteArray.size, boo, entL, renL_enM, renL_upM]))
      refine goC_h [(1000, 0), (1001, 0)] 6000 (isAboveOne_h M U hMp hU e s1) (by simp) (by simp) ?_ ?_ ?_
      iterate 2 (case _ => simp (disch := omega) only [wP, wZ, undef, UInt8.reduceToNat, Nat.reduceOr, Nat.reduceAnd, Nat.reduceXor, Nat.reduceDiv, if_pos, if_neg, aStore, frz, AV.flat, ↓reduceIte, ne_eq, reduceCtorEq, Int.reduceToNat, Nat.reduceEqDiff, Nat.reduceAdd, Nat.reduceSub, Nat.reduceMul, Int.reduceAdd, Int.reduceMul, Int.reduceSub, Int.reduceLT, Int.reduceLE, Int.reduceEq, Int.reduceNe, Nat.reduceLeDiff, Nat.reduceLT, Int.reduceNeg, Nat.reducePow, Nat.reduceMod, ByteArray.size, renL_enM, renL_upM, entV, entL, renL_free _ _ free_u8])
      cases c2 : (decide (e.path ∈ U) && !decide (e.kind = 2))
      · rw [c2, if_neg (by decide)] at hZ
        subst hZ
        repeat (first | refine wA ?_ | refine wB ?_ | refine wC rfl ?_ | refine wD rfl ?_ | refine wE ?_ | refine wF (by omega) ?_ | ((first | refine wG ?_ | refine wH ?_ | refine wI ?_ | refine wJ ?_ | refine wK ?_ | refine wL ?_); simp (disch := omega) only [wP, wZ, undef, UInt8.reduceToNat, Nat.reduceOr, Nat.reduceAnd, Nat.reduceXor, Nat.reduceDiv, if_pos, if_neg, aStore, frz, AV.flat, ↓reduceIte, ne_eq, reduceCtorEq, Int.reduceToNat, Nat.reduceEqDiff, Nat.reduceAdd, Nat.reduceSub, Nat.reduceMul, Int.reduceAdd, Int.reduceMul, Int.reduceSub, Int.reduceLT, Int.reduceLE, Int.reduceEq, Int.reduceNe, Nat.reduceLeDiff, Nat.reduceLT, Int.reduceNeg, Nat.reducePow, Nat.reduceMod, ByteArray.size, boo, renL_enM, renL_upM]))
        omega
      · rw [c2, if_pos rfl] at hZ
        subst hZ
        repeat (first | refine wA ?_ | refine wB ?_ | refine wC rfl ?_ | refine wD rfl ?_ | refine wE ?_ | refine wF (by omega) ?_ | ((first | refine wG ?_ | refine wH ?_ | refine wI ?_ | refine wJ ?_ | refine wK ?_ | refine wL ?_); simp (disch := omega) only [wP, wZ, undef, UInt8.reduceToNat, Nat.reduceOr, Nat.reduceAnd, Nat.reduceXor, Nat.reduceDiv, if_pos, if_neg, aStore, frz, AV.flat, ↓reduceIte, ne_eq, reduceCtorEq, Int.reduceToNat, Nat.reduceEqDiff, Nat.reduceAdd, Nat.reduceSub, Nat.reduceMul, Int.reduceAdd, Int.reduceMul, Int.reduceSub, Int.reduceLT, Int.reduceLE, Int.reduceEq, Int.reduceNe, Nat.reduceLeDiff, Nat.reduceLT, Int.reduceNeg, Nat.reducePow, Nat.reduceMod, ByteArray.size, boo, renL_enM, renL_upM]))
        omega
end Go.Proofs.YtbmmdkbinlnogaaDoor.Aw
