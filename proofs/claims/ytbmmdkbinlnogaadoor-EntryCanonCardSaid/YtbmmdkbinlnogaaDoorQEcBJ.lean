/- Parts of the proofs of Ec. -/
import Derived.Test.YtbmmdkbinlnogaaDoorQEcBI
import Derived.Lib.Bytealg
import Derived.Shelf.SlSortCmp.WholeK
import Derived.Ground.SlsfProg
import Derived.Test.YtbmmdkbinlnogaaDoorProg
import Derived.Shelf.SlSortCmp.NoneTotal
import Derived.Shelf.Strings.IndexAnyAll
import Derived.Laws.Runes
import Derived.Lib.OthersKept
import Derived.Lib.DecodeN
import Derived.Shelf.Small.Utf8
import Derived.WalkMore
import Derived.BigCall
import Derived.BigGuard
import Derived.Deep.Draws
import Derived.Lib.TrimU
namespace Go.Proofs.YtbmmdkbinlnogaaDoor.Aw
open Go
set_option linter.unusedSimpArgs false
set_option linter.unusedVariables false
theorem cut_len {c : UInt8} : ∀ {s : List UInt8}, (cutL c s).length ≤ s.length + 1
  | [] => by simp [cutL]
  | x :: s => by
    have ih := cut_len (c := c) (s := s)
    rw [cutL]
    split <;> simp <;> omega
set_option maxHeartbeats 1000000 in
set_option maxRecDepth 100000 in
theorem ref_Path_c [Tabs Tryd.prog] (s : List UInt8) (hs : s.length ≤ 1000000) : Con Tryd.prog n_drayageref07_Path [str s] (boo (pathOk s)) := by
  refine Con.of' mix Tryd.func13 rfl Tryd.ntmps13 e_drayageref07_Path r_drayageref07_Path (by simp) rfl rfl ?_
  unfold s_drayageref07_Path
  obtain ⟨Z, hZ⟩ : ∃ Z, Z = pathOk s := ⟨_, rfl⟩
  rw [← hZ]
  by_cases h0 : s = []
  · subst h0
    have hz : Z = false := by rw [hZ]; rfl
    subst hz
    repeat (first | refine wA ?_ | refine wB ?_ | refine wC rfl ?_ | refine wD rfl ?_ | refine wE ?_ | refine wF (by omega) ?_ | ((first | refine wG ?_ | refine wH ?_ | refine wI ?_ | refine wJ ?_ | refine wK ?_ | refine wL ?_); simp (disch := omega) only [wP, wZ, undef, UInt8.reduceToNat, Nat.reduceOr, Nat.reduceAnd, Nat.reduceXor, Nat.reduceDiv, if_pos, if_neg, aStore, frz, AV.flat, ↓reduceIte, ne_eq, reduceCtorEq, Int.reduceToNat, Nat.reduceEqDiff, Nat.reduceAdd, Nat.reduceSub, Nat.reduceMul, Int.reduceAdd, Int.reduceMul, Int.reduceSub, Int.reduceLT, Int.reduceLE, Int.reduceEq, Int.reduceNe, Nat.reduceLeDiff, Nat.reduceLT, Int.reduceNeg, Nat.reducePow, Nat.reduceMod, ByteArray.size, boo]))
    done
  have hl : 0 < s.length := List.length_pos_iff.2 h0
  have d0 : decide ((s.length : Int) < 1) = false := decide_eq_false (by omega)
  by_cases h1 : s.length ≤ 200
  case neg =>
    have d : decide ((200 : Int) < (s.length : Int)) = true := decide_eq_true (by omega)
    have : Z = false := by rw [hZ, pathOk, decide_eq_false h1]; rfl
    subst this
    repeat (first | refine wA ?_ | refine wB ?_ | refine wC rfl ?_ | refine wD rfl ?_ | refine wE ?_ | refine wF (by omega) ?_ | ((first | refine wG ?_ | refine wH ?_ | refine wI ?_ | refine wJ ?_ | refine wK ?_ | refine wL ?_); simp (disch := omega) only [wP, wZ, undef, UInt8.reduceToNat, Nat.reduceOr, Nat.reduceAnd, Nat.reduceXor, Nat.reduceDiv, if_pos, if_neg, aStore, frz, AV.flat, ↓reduceIte, ne_eq, reduceCtorEq, Int.reduceToNat, Nat.reduceEqDiff, Nat.reduceAdd, Nat.reduceSub, Nat.reduceMul, Int.reduceAdd, Int.reduceMul, Int.reduceSub, Int.reduceLT, Int.reduceLE, Int.reduceEq, Int.reduceNe, Nat.reduceLeDiff, Nat.reduceLT, Int.reduceNeg, Nat.reducePow, Nat.reduceMod, ByteArray.size, d, d0, boo]))
  have d : decide ((200 : Int) < (s.length : Int)) = false := decide_eq_false (by omega)
  repeat (first | refine wA ?_ | refine wB ?_ | refine wC rfl ?_ | refine wD rfl ?_ | refine wE ?_ | refine wF (by omega) ?_ | ((first | refine wG ?_ | refine wH ?_ | refine wI ?_ | refine wJ ?_ | refine wK ?_ | refine wL ?_); simp (disch := omega) only [wP, wZ, undef, UInt8.reduceToNat, Nat.reduceOr, Nat.reduceAnd, Nat.reduceXor, Nat.reduceDiv, if_pos, if_neg, aStore, frz, AV.flat, ↓reduceIte, ne_eq, reduceCtorEq, Int.reduceToNat, Nat.reduceEqDiff, Nat.reduceAdd, Nat.reduceSub, Nat.reduceMul, Int.reduceAdd, Int.reduceMul, Int.reduceSub, Int.reduceLT, Int.reduceLE, Int.reduceEq, Int.reduceNe, Nat.reduceLeDiff, Nat.reduceLT, Int.reduceNeg, Nat.reducePow, Nat.reduceMod, ByteArray.size, d, d0, boo]))
  refine goC_p _ (.inl ⟨rfl, ref_Has_c s hs 0⟩) ?_
  by_cases h2 : Lib.indexByte s 0 < 0
  case neg =>
    have d2 : decide (0 ≤ Lib.indexByte s 0) = true := decide_eq_true (by omega)
    have : Z = false := by rw [hZ, pathOk, decide_eq_false h2]; simp
    subst this
    repeat (first | refine wA ?_ | refine wB ?_ | refine wC rfl ?_ | refine wD rfl ?_ | refine wE ?_ | refine wF (by omega) ?_ | ((first | refine wG ?_ | refine wH ?_ | refine wI ?_ | refine wJ ?_ | refine wK ?_ | refine wL ?_); simp (disch := omega) only [wP, wZ, undef, UInt8.reduceToNat, Nat.reduceOr, Nat.reduceAnd, Nat.reduceXor, Nat.reduceDiv, if_pos, if_neg, aStore, frz, AV.flat, ↓reduceIte, ne_eq, reduceCtorEq, Int.reduceToNat, Nat.reduceEqDiff, Nat.reduceAdd, Nat.reduceSub, Nat.reduceMul, Int.reduceAdd, Int.reduceMul, Int.reduceSub, Int.reduceLT, Int.reduceLE, Int.reduceEq, Int.reduceNe, Nat.reduceLeDiff, Nat.reduceLT, Int.reduceNeg, Nat.reducePow, Nat.reduceMod, ByteArray.size, d, d2, boo]))
  have d2 : decide (0 ≤ Lib.indexByte s 0) = false := decide_eq_false (by omega)
  repeat (first | refine wA ?_ | refine wB ?_ | refine wC rfl ?_ | refine wD rfl ?_ | refine wE ?_ | refine wF (by omega) ?_ | ((first | refine wG ?_ | refine wH ?_ | refine wI ?_ | refine wJ ?_ | refine wK ?_ | refine wL ?_); simp (disch := omega) only [wP, wZ, undef, UInt8.reduceToNat, Nat.reduceOr, Nat.reduceAnd, Nat.reduceXor, Nat.reduceDiv, if_pos, if_neg, aStore, frz, AV.flat, ↓reduceIte, ne_eq, reduceCtorEq, Int.reduceToNat, Nat.reduceEqDiff, Nat.reduceAdd, Nat.reduceSub, Nat.reduceMul, Int.reduceAdd, Int.reduceMul, Int.reduceSub, Int.reduceLT, Int.reduceLE, Int.reduceEq, Int.reduceNe, Nat.reduceLeDiff, Nat.reduceLT, Int.reduceNeg, Nat.reducePow, Nat.reduceMod, ByteArray.size, d, d2, boo]))
  refine goC_p _ (.inl ⟨rfl, ref_Parts_c s hs⟩) ?_
  obtain ⟨L, hL⟩ : ∃ L, L = cutL 47 s := ⟨_, rfl⟩
  rw [pathOk, decide_eq_true h1, decide_eq_true h2, ← hL, Bool.true_and, Bool.true_and] at hZ
  rw [← hL]
  have hll : L.length ≤ 1000001 := by
    rw [hL]
    have := cut_len (c := 47) (s := s)
    omega
  repeat (first | refine wA ?_ | refine wB ?_ | refine wC rfl ?_ | refine wD rfl ?_ | refine wE ?_ | refine wF (by omega) ?_ | ((first | refine wG ?_ | refine wH ?_ | refine wI ?_ | refine wJ ?_ | refine wK ?_ | refine wL ?_); simp (disch := omega) only [wP, wZ, undef, UInt8.reduceToNat, Nat.reduceOr, Nat.reduceAnd, Nat.reduceXor, Nat.reduceDiv, if_pos, if_neg, aStore, frz, AV.flat, ↓reduceIte, ne_eq, reduceCtorEq, Int.reduceToNat, Nat.reduceEqDiff, Nat.reduceAdd, Nat.reduceSub, Nat.reduceMul, Int.reduceAdd, Int.reduceMul, Int.reduceSub, Int.reduceLT, Int.reduceLE, Int.reduceEq, Int.reduceNe, Nat.reduceLeDiff, Nat.reduceLT, Int.reduceNeg, Nat.reducePow, Nat.reduceMod, ByteArray.size]))
  refine SWp.loop (α := Nat) (fun k => mk 44 0 [(3, .sl false none (L.map str)), (4, int k)] [])
    (fun k => k ≤ L.length ∧ (L.take k).all partOk = true) (fun k => L.length - k) 0 ⟨Nat.zero_le _, rfl⟩ (le_mk rfl (Nat.le_refl _) ?_ ?_) ?_
  iterate 2 (case _ => simp (disch := omega) only [wP, wZ, undef, UInt8.reduceToNat, Nat.reduceOr, Nat.reduceAnd, Nat.reduceXor, Nat.reduceDiv, if_pos, if_neg, aStore, frz, AV.flat, ↓reduceIte, ne_eq, reduceCtorEq, Int.reduceToNat, Nat.reduceEqDiff, Nat.reduceAdd, Nat.reduceSub, Nat.reduceMul, Int.reduceAdd, Int.reduceMul, Int.reduceSub, Int.reduceLT, Int.reduceLE, Int.reduceEq, Int.reduceNe, Nat.reduceLeDiff, Nat.reduceLT, Int.reduceNeg, Nat.reducePow, Nat.reduceMod, ByteArray.size])
  rintro k ⟨hk, hi⟩ -
  by_cases hk' : k < L.length
  case neg =>
    have dk : decide ((k : Int) < (L.length : Int)) = false := decide_eq_false (by omega)
    have hz : Z = true := by
      rw [List.take_of_length_le (by omega)] at hi
      rw [hZ, hi]
    subst hz
    repeat (first | refine wA ?_ | refine wB ?_ | refine wC rfl ?_ | refine wD rfl ?_ | refine wE ?_ | refine wF (by omega) ?_ | ((first | refine wG ?_ | refine wH ?_ | refine wI ?_ | refine wJ ?_ | refine wK ?_ | refine wL ?_); simp (disch := omega) only [wP, wZ, undef, UInt8.reduceToNat, Nat.reduceOr, Nat.reduceAnd, Nat.reduceXor, Nat.reduceDiv, if_pos, if_neg, aStore, frz, AV.flat, ↓reduceIte, ne_eq, reduceCtorEq, Int.reduceToNat, Nat.reduceEqDiff, Nat.reduceAdd, Nat.reduceSub, Nat.reduceMul, Int.reduceAdd, Int.reduceMul, Int.reduceSub, Int.reduceLT, Int.reduceLE, Int.reduceEq, Int.reduceNe, Nat.reduceLeDiff, Nat.reduceLT, Int.reduceNeg, Nat.reducePow, Nat.reduceMod, ByteArray.size, dk, List.length_map]))
  have dk : decide ((k : Int) < (L.length : Int)) = true := decide_eq_true (by omega)
  obtain ⟨p, hp⟩ : ∃ p, L[k]? = some p := ⟨L[k], List.getElem?_eq_getElem hk'⟩
  have hg : (L.map str).getD k .junk = .sc (.string ⟨p.toArray⟩) := by simp [List.getD, hp, str]
  have hbad : partOk p = false → Z = false := fun h => by
    rw [hZ]
    rw [List.all_eq_false]
    exact ⟨p, List.mem_of_getElem? hp, by rw [h]; simp⟩
  by_cases p1 : p = []
  · subst p1
    have hz := hbad rfl
    subst hz
    repeat (first | refine wA ?_ | refine wB ?_ | refine wC rfl ?_ | refine wD rfl ?_ | refine wE ?_ | refine wF (by omega) ?_ | ((first | refine wG ?_ | refine wH ?_ | refine wI ?_ | refine wJ ?_ | refine wK ?_ | refine wL ?_); simp (disch := omega) only [wP, wZ, undef, UInt8.reduceToNat, Nat.reduceOr, Nat.reduceAnd, Nat.reduceXor, Nat.reduceDiv, if_pos, if_neg, aStore, frz, AV.flat, ↓reduceIte, ne_eq, reduceCtorEq, Int.reduceToNat, Nat.reduceEqDiff, Nat.reduceAdd, Nat.reduceSub, Nat.reduceMul, Int.reduceAdd, Int.reduceMul, Int.reduceSub, Int.reduceLT, Int.reduceLE, Int.reduceEq, Int.reduceNe, Nat.reduceLeDiff, Nat.reduceLT, Int.reduceNeg, Nat.reducePow, Nat.reduceMod, ByteArray.size, dk, List.length_map, hg]))
    done
  by_cases p2 : p = [46]
  · subst p2
    have hz := hbad rfl
    subst hz
    repeat (first | refine wA ?_ | refine wB ?_ | refine wC rfl ?_ | refine wD rfl ?_ | refine wE ?_ | refine wF (by omega) ?_ | ((first | refine wG ?_ | refine wH ?_ | refine wI ?_ | refine wJ ?_ | refine wK ?_ | refine wL ?_); simp (disch := omega) only [wP, wZ, undef, UInt8.reduceToNat, Nat.reduceOr, Nat.reduceAnd, Nat.reduceXor, Nat.reduceDiv, if_pos, if_neg, aStore, frz, AV.flat, ↓reduceIte, ne_eq, reduceCtorEq, Int.reduceToNat, Nat.reduceEqDiff, Nat.reduceAdd, Nat.reduceSub, Nat.reduceMul, Int.reduceAdd, Int.reduceMul, Int.reduceSub, Int.reduceLT, Int.reduceLE, Int.reduceEq, Int.reduceNe, Nat.reduceLeDiff, Nat.reduceLT, Int.reduceNeg, Nat.reducePow, Nat.reduceMod, ByteArray.size, dk, List.length_map, hg, List.cons_ne_self, List.cons_ne_nil]))
  by_cases p3 : p = [46, 46]
  · subst p3
    have hz := hbad rfl
    subst hz
    repeat (first | refine wA ?_ | refine wB ?_ | refine wC rfl ?_ | refine wD rfl ?_ | refine wE ?_ | refine wF (by omega) ?_ | ((first | refine wG ?_ | refine wH ?_ | refine wI ?_ | refine wJ ?_ | refine wK ?_ | refine wL ?_); simp (disch := omega) only [wP, wZ, undef, UInt8.reduceToNat, Nat.reduceOr, Nat.reduceAnd, Nat.reduceXor, Nat.reduceDiv, if_pos, if_neg, aStore, frz, AV.flat, ↓reduceIte, ne_eq, reduceCtorEq, Int.reduceToNat, Nat.reduceEqDiff, Nat.reduceAdd, Nat.reduceSub, Nat.reduceMul, Int.reduceAdd, Int.reduceMul, Int.reduceSub, Int.reduceLT, Int.reduceLE, Int.reduceEq, Int.reduceNe, Nat.reduceLeDiff, Nat.reduceLT, Int.reduceNeg, Nat.reducePow, Nat.reduceMod, ByteArray.size, dk, List.length_map, hg, List.cons_ne_self, List.cons_ne_nil]))
  have e1 : decide (p = []) = false := decide_eq_false p1
  have e2 : decide (p = [46]) = false := decide_eq_false p2
  have e3 : decide (p = [46, 46]) = false := decide_eq_false p3
  repeat (first | refine wA ?_ | refine wB ?_ | refine wC rfl ?_ | refine wD rfl ?_ | refine wE ?_ | refine wF (by omega) ?_ | ((first | refine wG ?_ | refine wH ?_ | refine wI ?_ | refine wJ ?_ | refine wK ?_ | refine wL ?_); simp (disch := omega) only [wP, wZ, undef, UInt8.reduceToNat, Nat.reduceOr, Nat.reduceAnd, Nat.reduceXor, Nat.reduceDiv, if_pos, if_neg, aStore, frz, AV.flat, ↓reduceIte, ne_eq, reduceCtorEq, Int.reduceToNat, Nat.reduceEqDiff, Nat.reduceAdd, Nat.reduceSub, Nat.reduceMul, Int.reduceAdd, Int.reduceMul, Int.reduceSub, Int.reduceLT, Int.reduceLE, Int.reduceEq, Int.reduceNe, Nat.reduceLeDiff, Nat.reduceLT, Int.reduceNeg, Nat.reducePow, Nat.reduceMod, ByteArray.size, dk, List.length_map, hg, e1, e2, e3]))
  have hgd : partOk p = true := by simp [partOk, p1, p2, p3]
  refine At.of (k + 1) ⟨by omega, all_takeS hi hp hgd⟩ (by omega) rfl rfl (Nat.le_refl _) ?_ ?_
  iterate 2 (case _ => simp (disch := omega) only [wP, wZ, undef, UInt8.reduceToNat, Nat.reduceOr, Nat.reduceAnd, Nat.reduceXor, Nat.reduceDiv, if_pos, if_neg, aStore, frz, AV.flat, ↓reduceIte, ne_eq, reduceCtorEq, Int.reduceToNat, Nat.reduceEqDiff, Nat.reduceAdd, Nat.reduceSub, Nat.reduceMul, Int.reduceAdd, Int.reduceMul, Int.reduceSub, Int.reduceLT, Int.reduceLE, Int.reduceEq, Int.reduceNe, Nat.reduceLeDiff, Nat.reduceLT, Int.reduceNeg, Nat.reducePow, Nat.reduceMod, ByteArray.size])
end Go.Proofs.YtbmmdkbinlnogaaDoor.Aw
namespace Go.Proofs.YtbmmdkbinlnogaaDoor.Aw
open Go
set_option linter.unusedSimpArgs false
set_option linter.unusedVariables false
end Go.Proofs.YtbmmdkbinlnogaaDoor.Aw
namespace Go.Proofs.YtbmmdkbinlnogaaDoor.Aw
open Go
set_option linter.unusedSimpArgs false
set_option linter.unusedVariables false
structure Ent where
  path : List UInt8
  kind : Int
  mode : Int
  uid : Int
  gid : Int
  owner : List UInt8
  group : List UInt8
  mtime : Int
  link : List UInt8
  nl : Bool
  data : List UInt8
def entL (e : Ent) : List AV := [str e.path, int e.kind, int e.mode, int e.uid, int e.gid, str e.owner, str e.group, int e.mtime, str e.link, .sl e.nl none (e.data.map u8)]
def entV (e : Ent) : AV := .agg (entL e)
theorem free_entV {e : Ent} : AV.free.freeL [entV e] = true := by simp only [entV, entL, AV.free, AV.free.freeL, str, int, free_u8, Bool.and_self]
theorem free_ents {l : List Ent} : AV.free.freeL (l.map entV) = true := freeL_iff.2 fun x hx => by
  obtain ⟨m, _, rfl⟩ := List.mem_map.1 hx
  simp only [entV, entL, AV.free, AV.free.freeL, str, int, free_u8, Bool.and_self]
theorem getD_ents {l : List Ent} {k : Nat} (h : k < l.length) : (l.map entV).getD k .junk = entV l[k] := by simp [List.getD, List.getElem?_eq_getElem h]
def upTo (most n : Int) : Bool := decide (0 ≤ n) && decide (n ≤ most)
def numFit (e : Ent) : Bool := upTo 4095 e.mode && (upTo 2097151 e.uid && (upTo 2097151 e.gid && upTo 8589934591 e.mtime))
set_option maxRecDepth 100000 in
theorem isUpTo_c [Tabs Tryd.prog] (most n : Int) : Con Tryd.prog n_entry_isUpTo [int most, int n] (boo (upTo most n)) := by
  refine Con.of' mix Tryd.func54 rfl Tryd.ntmps54 e_entry_isUpTo r_entry_isUpTo (by simp) rfl rfl ?_
  unfold s_entry_isUpTo
  obtain ⟨Z, hZ⟩ : ∃ Z, Z = upTo most n := ⟨_, rfl⟩
  rw [← hZ]
  rw [upTo] at hZ
  by_cases h1 : 0 ≤ n
  · have d1 : decide (0 ≤ n) = true := decide_eq_true h1
    rw [d1, Bool.true_and] at hZ
    subst hZ
    repeat (first | refine wA ?_ | refine wB ?_ | refine wC rfl ?_ | refine wD rfl ?_ | refine wE ?_ | refine wF (by omega) ?_ | ((first | refine wG ?_ | refine wH ?_ | refine wI ?_ | refine wJ ?_ | refine wK ?_ | refine wL ?_); simp (disch := omega) only [wP, wZ, undef, UInt8.reduceToNat, Nat.reduceOr, Nat.reduceAnd, Nat.reduceXor, Nat.reduceDiv, if_pos, if_neg, aStore, frz, AV.flat, ↓reduceIte, ne_eq, reduceCtorEq, Int.reduceToNat, Nat.reduceEqDiff, Nat.reduceAdd, Nat.reduceSub, Nat.reduceMul, Int.reduceAdd, Int.reduceMul, Int.reduceSub, Int.reduceLT, Int.reduceLE, Int.reduceEq, Int.reduceNe, Nat.reduceLeDiff, Nat.reduceLT, Int.reduceNeg, Nat.reducePow, Nat.reduceMod, ByteArray.size, d1, boo]))
  · have d1 : decide (0 ≤ n) = false := decide_eq_false h1
    rw [d1, Bool.false_and] at hZ
    subst hZ
    repeat (first | refine wA ?_ | refine wB ?_ | refine wC rfl ?_ | refine wD rfl ?_ | refine wE ?_ | refine wF (by omega) ?_ | ((first | refine wG ?_ | refine wH ?_ | refine wI ?_ | refine wJ ?_ | refine wK ?_ | refine wL ?_); simp (disch := omega) only [wP, wZ, undef, UInt8.reduceToNat, Nat.reduceOr, Nat.reduceAnd, Nat.reduceXor, Nat.reduceDiv, if_pos, if_neg, aStore, frz, AV.flat, ↓reduceIte, ne_eq, reduceCtorEq, Int.reduceToNat, Nat.reduceEqDiff, Nat.reduceAdd, Nat.reduceSub, Nat.reduceMul, Int.reduceAdd, Int.reduceMul, Int.reduceSub, Int.reduceLT, Int.reduceLE, Int.reduceEq, Int.reduceNe, Nat.reduceLeDiff, Nat.reduceLT, Int.reduceNeg, Nat.reducePow, Nat.reduceMod, ByteArray.size, d1, boo]))
set_option maxHeartbeats 1000000 in
set_option maxRecDepth 100000 in
theorem numbersFit_c [Tabs Tryd.prog] (e : Ent) : Con Tryd.prog n_entry_numbersFit [entV e] (boo (numFit e)) := by
  refine Con.of' mix Tryd.func33 rfl Tryd.ntmps33 e_entry_numbersFit r_entry_numbersFit (by simp) free_entV rfl ?_
  unfold s_entry_numbersFit
  obtain ⟨Z, hZ⟩ : ∃ Z, Z = numFit e := ⟨_, rfl⟩
  rw [← hZ]
  rw [numFit] at hZ
  repeat (first | refine wA ?_ | refine wB ?_ | refine wC rfl ?_ | refine wD rfl ?_ | refine wE ?_ | refine wF (by omega) ?_ | ((first | refine wG ?_ | refine wH ?_ | refine wI ?_ | refine wJ ?_ | refine wK ?_ | refine wL ?_); simp (disch := omega) only [wP, wZ, undef, UInt8.reduceToNat, Nat.reduceOr, Nat.reduceAnd, Nat.reduceXor, Nat.reduceDiv, if_pos, if_neg, aStore, frz, AV.flat, ↓reduceIte, ne_eq, reduceCtorEq, Int.reduceToNat, Nat.reduceEqDiff, Nat.reduceAdd, Nat.reduceSub, Nat.reduceMul, Int.reduceAdd, Int.reduceMul, Int.reduceSub, Int.reduceLT, Int.reduceLE, Int.reduceEq, Int.reduceNe, Nat.reduceLeDiff, Nat.reduceLT, Int.reduceNeg, Nat.reducePow, Nat.reduceMod, ByteArray.size, entV, entL]))
  refine goC_p _ (.inl ⟨rfl, isUpTo_c 4095 e.mode⟩) ?_
  cases h1 : upTo 4095 e.mode
  · rw [h1, Bool.false_and] at hZ
    subst hZ
    repeat (first | refine wA ?_ | refine wB ?_ | refine wC rfl ?_ | refine wD rfl ?_ | refine wE ?_ | refine wF (by omega) ?_ | ((first | refine wG ?_ | refine wH ?_ | refine wI ?_ | refine wJ ?_ | refine wK ?_ | refine wL ?_); simp (disch := omega) only [wP, wZ, undef, UInt8.reduceToNat, Nat.reduceOr, Nat.reduceAnd, Nat.reduceXor, Nat.reduceDiv, if_pos, if_neg, aStore, frz, AV.flat, ↓reduceIte, ne_eq, reduceCtorEq, Int.reduceToNat, Nat.reduceEqDiff, Nat.reduceAdd, Nat.reduceSub, Nat.reduceMul, Int.reduceAdd, Int.reduceMul, Int.reduceSub, Int.reduceLT, Int.reduceLE, Int.reduceEq, Int.reduceNe, Nat.reduceLeDiff, Nat.reduceLT, Int.reduceNeg, Nat.reducePow, Nat.reduceMod, ByteArray.size, boo]))
  rw [h1, Bool.true_and] at hZ
  repeat (first | refine wA ?_ | refine wB ?_ | refine wC rfl ?_ | refine wD rfl ?_ | refine wE ?_ | refine wF (by omega) ?_ | ((first | refine wG ?_ | refine wH ?_ | refine wI ?_ | refine wJ ?_ | refine wK ?_ | refine wL ?_); simp (disch := omega) only [wP, wZ, undef, UInt8.reduceToNat, Nat.reduceOr, Nat.reduceAnd, Nat.reduceXor, Nat.reduceDiv, if_pos, if_neg, aStore, frz, AV.flat, ↓reduceIte, ne_eq, reduceCtorEq, Int.reduceToNat, Nat.reduceEqDiff, Nat.reduceAdd, Nat.reduceSub, Nat.reduceMul, Int.reduceAdd, Int.reduceMul, Int.reduceSub, Int.reduceLT, Int.reduceLE, Int.reduceEq, Int.reduceNe, Nat.reduceLeDiff, Nat.reduceLT, Int.reduceNeg, Nat.reducePow, Nat.reduceMod, ByteArray.size, boo]))
  refine goC_p _ (.inl ⟨rfl, isUpTo_c 2097151 e.uid⟩) ?_
  cases h2 : upTo 2097151 e.uid
  · rw [h2, Bool.false_and] at hZ
    subst hZ
    repeat (first | refine wA ?_ | refine wB ?_ | refine wC rfl ?_ | refine wD rfl ?_ | refine wE ?_ | refine wF (by omega) ?_ | ((first | refine wG ?_ | refine wH ?_ | refine wI ?_ | refine wJ ?_ | refine wK ?_ | refine wL ?_); simp (disch := omega) only [wP, wZ, undef, UInt8.reduceToNat, Nat.reduceOr, Nat.reduceAnd, Nat.reduceXor, Nat.reduceDiv, if_pos, if_neg, aStore, frz, AV.flat, ↓reduceIte, ne_eq, reduceCtorEq, Int.reduceToNat, Nat.reduceEqDiff, Nat.reduceAdd, Nat.reduceSub, Nat.reduceMul, Int.reduceAdd, Int.reduceMul, Int.reduceSub, Int.reduceLT, Int.reduceLE, Int.reduceEq, Int.reduceNe, Nat.reduceLeDiff, Nat.reduceLT, Int.reduceNeg, Nat.reducePow, Nat.reduceMod, ByteArray.size, boo]))
  rw [h2, Bool.true_and] at hZ
  repeat (first | refine wA ?_ | refine wB ?_ | refine wC rfl ?_ | refine wD rfl ?_ | refine wE ?_ | refine wF (by omega) ?_ | ((first | refine wG ?_ | refine wH ?_ | refine wI ?_ | refine wJ ?_ | refine wK ?_ | refine wL ?_); simp (disch := omega) only [wP, wZ, undef, UInt8.reduceToNat, Nat.reduceOr, Nat.reduceAnd, Nat.reduceXor, Nat.reduceDiv, if_pos, if_neg, aStore, frz, AV.flat, ↓reduceIte, ne_eq, reduceCtorEq, Int.reduceToNat, Nat.reduceEqDiff, Nat.reduceAdd, Nat.reduceSub, Nat.reduceMul, Int.reduceAdd, Int.reduceMul, Int.reduceSub, Int.reduceLT, Int.reduceLE, Int.reduceEq, Int.reduceNe, Nat.reduceLeDiff, Nat.reduceLT, Int.reduceNeg, Nat.reducePow, Nat.reduceMod, ByteArray.size, boo]))
  refine goC_p _ (.inl ⟨rfl, isUpTo_c 2097151 e.gid⟩) ?_
  cases h3 : upTo 2097151 e.gid
  · rw [h3, Bool.false_and] at hZ
    subst hZ
    repeat (first | refine wA ?_ | refine wB ?_ | refine wC rfl ?_ | refine wD rfl ?_ | refine wE ?_ | refine wF (by omega) ?_ | ((first | refine wG ?_ | refine wH ?_ | refine wI ?_ | refine wJ ?_ | refine wK ?_ | refine wL ?_); simp (disch := omega) only [wP, wZ, undef, UInt8.reduceToNat, Nat.reduceOr, Nat.reduceAnd, Nat.reduceXor, Nat.reduceDiv, if_pos, if_neg, aStore, frz, AV.flat, ↓reduceIte, ne_eq, reduceCtorEq, Int.reduceToNat, Nat.reduceEqDiff, Nat.reduceAdd, Nat.reduceSub, Nat.reduceMul, Int.reduceAdd, Int.reduceMul, Int.reduceSub, Int.reduceLT, Int.reduceLE, Int.reduceEq, Int.reduceNe, Nat.reduceLeDiff, Nat.reduceLT, Int.reduceNeg, Nat.reducePow, Nat.reduceMod, ByteArray.size, boo]))
  rw [h3, Bool.true_and] at hZ
  repeat (first | refine wA ?_ | refine wB ?_ | refine wC rfl ?_ | refine wD rfl ?_ | refine wE ?_ | refine wF (by omega) ?_ | ((first | refine wG ?_ | refine wH ?_ | refine wI ?_ | refine wJ ?_ | refine wK ?_ | refine wL ?_); simp (disch := omega) only [wP, wZ, undef, UInt8.reduceToNat, Nat.reduceOr, Nat.reduceAnd, Nat.reduceXor, Nat.reduceDiv, if_pos, if_neg, aStore, frz, AV.flat, ↓reduceIte, ne_eq, reduceCtorEq, Int.reduceToNat, Nat.reduceEqDiff, Nat.reduceAdd, Nat.reduceSub, Nat.reduceMul, Int.reduceAdd, Int.reduceMul, Int.reduceSub, Int.reduceLT, Int.reduceLE, Int.reduceEq, Int.reduceNe, Nat.reduceLeDiff, Nat.reduceLT, Int.reduceNeg, Nat.reducePow, Nat.reduceMod, ByteArray.size, boo]))
  refine goC_p _ (.inl ⟨rfl, isUpTo_c 8589934591 e.mtime⟩) ?_
  subst hZ
  repeat (first | refine wA ?_ | refine wB ?_ | refine wC rfl ?_ | refine wD rfl ?_ | refine wE ?_ | refine wF (by omega) ?_ | ((first | refine wG ?_ | refine wH ?_ | refine wI ?_ | refine wJ ?_ | refine wK ?_ | refine wL ?_); simp (disch := omega) only [wP, wZ, undef, UInt8.reduceToNat, Nat.reduceOr, Nat.reduceAnd, Nat.reduceXor, Nat.reduceDiv, if_pos, if_neg, aStore, frz, AV.flat, ↓reduceIte, ne_eq, reduceCtorEq, Int.reduceToNat, Nat.reduceEqDiff, Nat.reduceAdd, Nat.reduceSub, Nat.reduceMul, Int.reduceAdd, Int.reduceMul, Int.reduceSub, Int.reduceLT, Int.reduceLE, Int.reduceEq, Int.reduceNe, Nat.reduceLeDiff, Nat.reduceLT, Int.reduceNeg, Nat.reducePow, Nat.reduceMod, ByteArray.size, boo]))
def hasB (s : List UInt8) (c : UInt8) : Bool := decide (0 ≤ Lib.indexByte s c)
def ownOk (s : List UInt8) : Bool := decide (s.length ≤ 31) && (!hasB s 0 && (!hasB s 10 && !hasB s 58))
set_option maxHeartbeats 1000000 in
set_option maxRecDepth 100000 in
theorem ref_owner_c [Tabs Tryd.prog] (s : List UInt8) (hs : s.length ≤ 1000000) : Con Tryd.prog n_drayageref07_owner [str s] (boo (ownOk s)) := by
  refine Con.of' mix Tryd.func36 rfl Tryd.ntmps36 e_drayageref07_owner r_drayageref07_owner (by simp) rfl rfl ?_
  unfold s_drayageref07_owner
  obtain ⟨Z, hZ⟩ : ∃ Z, Z = ownOk s := ⟨_, rfl⟩
  rw [← hZ]
  rw [ownOk] at hZ
  by_cases h0 : s.length ≤ 31
  case neg =>
    have d : decide ((s.length : Int) ≤ 31) = false := decide_eq_false (by omega)
    rw [decide_eq_false h0, Bool.false_and] at hZ
    subst hZ
    repeat (first | refine wA ?_ | refine wB ?_ | refine wC rfl ?_ | refine wD rfl ?_ | refine wE ?_ | refine wF (by omega) ?_ | ((first | refine wG ?_ | refine wH ?_ | refine wI ?_ | refine wJ ?_ | refine wK ?_ | refine wL ?_); simp (disch := omega) only [wP, wZ, undef, UInt8.reduceToNat, Nat.reduceOr, Nat.reduceAnd, Nat.reduceXor, Nat.reduceDiv, if_pos, if_neg, aStore, frz, AV.flat, ↓reduceIte, ne_eq, reduceCtorEq, Int.reduceToNat, Nat.reduceEqDiff, Nat.reduceAdd, Nat.reduceSub, Nat.reduceMul, Int.reduceAdd, Int.reduceMul, Int.reduceSub, Int.reduceLT, Int.reduceLE, Int.reduceEq, Int.reduceNe, Nat.reduceLeDiff, Nat.reduceLT, Int.reduceNeg, Nat.reducePow, Nat.reduceMod, ByteArray.size, boo, d]))
  have d : decide ((s.length : Int) ≤ 31) = true := decide_eq_true (by omega)
  rw [decide_eq_true h0, Bool.true_and] at hZ
  repeat (first | refine wA ?_ | refine wB ?_ | refine wC rfl ?_ | refine wD rfl ?_ | refine wE ?_ | refine wF (by omega) ?_ | ((first | refine wG ?_ | refine wH ?_ | refine wI ?_ | refine wJ ?_ | refine wK ?_ | refine wL ?_); simp (disch := omega) only [wP, wZ, undef, UInt8.reduceToNat, Nat.reduceOr, Nat.reduceAnd, Nat.reduceXor, Nat.reduceDiv, if_pos, if_neg, aStore, frz, AV.flat, ↓reduceIte, ne_eq, reduceCtorEq, Int.reduceToNat, Nat.reduceEqDiff, Nat.reduceAdd, Nat.reduceSub, Nat.reduceMul, Int.reduceAdd, Int.reduceMul, Int.reduceSub, Int.reduceLT, Int.reduceLE, Int.reduceEq, Int.reduceNe, Nat.reduceLeDiff, Nat.reduceLT, Int.reduceNeg, Nat.reducePow, Nat.reduceMod, ByteArray.size, boo, d]))
  refine goC_p _ (.inl ⟨rfl, ref_Has_c s hs 0⟩) ?_
  rw [show decide (0 ≤ Lib.indexByte s 0) = hasB s 0 from rfl]
  cases h1 : hasB s 0
  case true =>
    rw [h1] at hZ
    have : Z = false := by rw [hZ]; rfl
    subst this
    repeat (first | refine wA ?_ | refine wB ?_ | refine wC rfl ?_ | refine wD rfl ?_ | refine wE ?_ | refine wF (by omega) ?_ | ((first | refine wG ?_ | refine wH ?_ | refine wI ?_ | refine wJ ?_ | refine wK ?_ | refine wL ?_); simp (disch := omega) only [wP, wZ, undef, UInt8.reduceToNat, Nat.reduceOr, Nat.reduceAnd, Nat.reduceXor, Nat.reduceDiv, if_pos, if_neg, aStore, frz, AV.flat, ↓reduceIte, ne_eq, reduceCtorEq, Int.reduceToNat, Nat.reduceEqDiff, Nat.reduceAdd, Nat.reduceSub, Nat.reduceMul, Int.reduceAdd, Int.reduceMul, Int.reduceSub, Int.reduceLT, Int.reduceLE, Int.reduceEq, Int.reduceNe, Nat.reduceLeDiff, Nat.reduceLT, Int.reduceNeg, Nat.reducePow, Nat.reduceMod, ByteArray.size, boo]))
  rw [h1, Bool.not_false, Bool.true_and] at hZ
  repeat (first | refine wA ?_ | refine wB ?_ | refine wC rfl ?_ | refine wD rfl ?_ | refine wE ?_ | refine wF (by omega) ?_ | ((first | refine wG ?_ | refine wH ?_ | refine wI ?_ | refine wJ ?_ | refine wK ?_ | refine wL ?_); simp (disch := omega) only [wP, wZ, undef, UInt8.reduceToNat, Nat.reduceOr, Nat.reduceAnd, Nat.reduceXor, Nat.reduceDiv, if_pos, if_neg, aStore, frz, AV.flat, ↓reduceIte, ne_eq, reduceCtorEq, Int.reduceToNat, Nat.reduceEqDiff, Nat.reduceAdd, Nat.reduceSub, Nat.reduceMul, Int.reduceAdd, Int.reduceMul, Int.reduceSub, Int.reduceLT, Int.reduceLE, Int.reduceEq, Int.reduceNe, Nat.reduceLeDiff, Nat.reduceLT, Int.reduceNeg, Nat.reducePow, Nat.reduceMod, ByteArray.size, boo]))
  refine goC_p _ (.inl ⟨rfl, ref_Has_c s hs 10⟩) ?_
  rw [show decide (0 ≤ Lib.indexByte s 10) = hasB s 10 from rfl]
  cases h2 : hasB s 10
  case true =>
    rw [h2] at hZ
    have : Z = false := by rw [hZ]; rfl
    subst this
    repeat (first | refine wA ?_ | refine wB ?_ | refine wC rfl ?_ | refine wD rfl ?_ | refine wE ?_ | refine wF (by omega) ?_ | ((first | refine wG ?_ | refine wH ?_ | refine wI ?_ | refine wJ ?_ | refine wK ?_ | refine wL ?_); simp (disch := omega) only [wP, wZ, undef, UInt8.reduceToNat, Nat.reduceOr, Nat.reduceAnd, Nat.reduceXor, Nat.reduceDiv, if_pos, if_neg, aStore, frz, AV.flat, ↓reduceIte, ne_eq, reduceCtorEq, Int.reduceToNat, Nat.reduceEqDiff, Nat.reduceAdd, Nat.reduceSub, Nat.reduceMul, Int.reduceAdd, Int.reduceMul, Int.reduceSub, Int.reduceLT, Int.reduceLE, Int.reduceEq, Int.reduceNe, Nat.reduceLeDiff, Nat.reduceLT, Int.reduceNeg, Nat.reducePow, Nat.reduceMod, ByteArray.size, boo]))
  rw [h2, Bool.not_false, Bool.true_and] at hZ
  repeat (first | refine wA ?_ | refine wB ?_ | refine wC rfl ?_ | refine wD rfl ?_ | refine wE ?_ | refine wF (by omega) ?_ | ((first | refine wG ?_ | refine wH ?_ | refine wI ?_ | refine wJ ?_ | refine wK ?_ | refine wL ?_); simp (disch := omega) only [wP, wZ, undef, UInt8.reduceToNat, Nat.reduceOr, Nat.reduceAnd, Nat.reduceXor, Nat.reduceDiv, if_pos, if_neg, aStore, frz, AV.flat, ↓reduceIte, ne_eq, reduceCtorEq, Int.reduceToNat, Nat.reduceEqDiff, Nat.reduceAdd, Nat.reduceSub, Nat.reduceMul, Int.reduceAdd, Int.reduceMul, Int.reduceSub, Int.reduceLT, Int.reduceLE, Int.reduceEq, Int.reduceNe, Nat.reduceLeDiff, Nat.reduceLT, Int.reduceNeg, Nat.reducePow, Nat.reduceMod, ByteArray.size, boo]))
  refine goC_p _ (.inl ⟨rfl, ref_Has_c s hs 58⟩) ?_
  rw [show decide (0 ≤ Lib.indexByte s 58) = hasB s 58 from rfl]
  subst hZ
  cases h3 : hasB s 58
  · repeat (first | refine wA ?_ | refine wB ?_ | refine wC rfl ?_ | refine wD rfl ?_ | refine wE ?_ | refine wF (by omega) ?_ | ((first | refine wG ?_ | refine wH ?_ | refine wI ?_ | refine wJ ?_ | refine wK ?_ | refine wL ?_); simp (disch := omega) only [wP, wZ, undef, UInt8.reduceToNat, Nat.reduceOr, Nat.reduceAnd, Nat.reduceXor, Nat.reduceDiv, if_pos, if_neg, aStore, frz, AV.flat, ↓reduceIte, ne_eq, reduceCtorEq, Int.reduceToNat, Nat.reduceEqDiff, Nat.reduceAdd, Nat.reduceSub, Nat.reduceMul, Int.reduceAdd, Int.reduceMul, Int.reduceSub, Int.reduceLT, Int.reduceLE, Int.reduceEq, Int.reduceNe, Nat.reduceLeDiff, Nat.reduceLT, Int.reduceNeg, Nat.reducePow, Nat.reduceMod, ByteArray.size, boo]))
  · repeat (first | refine wA ?_ | refine wB ?_ | refine wC rfl ?_ | refine wD rfl ?_ | refine wE ?_ | refine wF (by omega) ?_ | ((first | refine wG ?_ | refine wH ?_ | refine wI ?_ | refine wJ ?_ | refine wK ?_ | refine wL ?_); simp (disch := omega) only [wP, wZ, undef, UInt8.reduceToNat, Nat.reduceOr, Nat.reduceAnd, Nat.reduceXor, Nat.reduceDiv, if_pos, if_neg, aStore, frz, AV.flat, ↓reduceIte, ne_eq, reduceCtorEq, Int.reduceToNat, Nat.reduceEqDiff, Nat.reduceAdd, Nat.reduceSub, Nat.reduceMul, Int.reduceAdd, Int.reduceMul, Int.reduceSub, Int.reduceLT, Int.reduceLE, Int.reduceEq, Int.reduceNe, Nat.reduceLeDiff, Nat.reduceLT, Int.reduceNeg, Nat.reducePow, Nat.reduceMod, ByteArray.size, boo]))
def alikeB (a b : Ent) : Bool := decide (a.mode = b.mode) && (decide (a.uid = b.uid) && (decide (a.gid = b.gid) && (decide (a.owner = b.owner) && (decide (a.group = b.group) && decide (a.mtime = b.mtime)))))
set_option maxHeartbeats 2000000 in
set_option maxRecDepth 100000 in
theorem ref_alike_c [Tabs Tryd.prog] (a b : Ent) : Con Tryd.prog n_drayageref07_alike [entV a, entV b] (boo (alikeB a b)) := by
  refine Con.of' mix Tryd.func41 rfl Tryd.ntmps41 e_drayageref07_alike r_drayageref07_alike (by simp) (by simp only [entV, entL, AV.free, AV.free.freeL, str, int, free_u8, Bool.and_self]) rfl ?_
  unfold s_drayageref07_alike
  obtain ⟨Z, hZ⟩ : ∃ Z, Z = alikeB a b := ⟨_, rfl⟩
  rw [← hZ]
  rw [alikeB] at hZ
  by_cases h0 : a.mode = b.mode
  case neg =>
    have d0 : decide (a.mode = b.mode) = false := decide_eq_false h0
    rw [d0, Bool.false_and] at hZ
    subst hZ
    repeat (first | refine wA ?_ | refine wB ?_ | refine wC rfl ?_ | refine wD rfl ?_ | refine wE ?_ | refine wF (by omega) ?_ | ((first | refine wG ?_ | refine wH ?_ | refine wI ?_ | refine wJ ?_ | refine wK ?_ | refine wL ?_); simp (disch := omega) only [wP, wZ, undef, UInt8.reduceToNat, Nat.reduceOr, Nat.reduceAnd, Nat.reduceXor, Nat.reduceDiv, if_pos, if_neg, aStore, frz, AV.flat, ↓reduceIte, ne_eq, reduceCtorEq, Int.reduceToNat, Nat.reduceEqDiff, Nat.reduceAdd, Nat.reduceSub, Nat.reduceMul, Int.reduceAdd, Int.reduceMul, Int.reduceSub, Int.reduceLT, Int.reduceLE, Int.reduceEq, Int.reduceNe, Nat.reduceLeDiff, Nat.reduceLT, Int.reduceNeg, Nat.reducePow, Nat.reduceMod, ByteArray.size, entV, entL, boo, d0]))
  have d0 : decide (a.mode = b.mode) = true := decide_eq_true h0
  rw [d0, Bool.true_and] at hZ
  by_cases h1 : a.uid = b.uid
  case neg =>
    have d1 : decide (a.uid = b.uid) = false := decide_eq_false h1
    rw [d1, Bool.false_and] at hZ
    subst hZ
    repeat (first | refine wA ?_ | refine wB ?_ | refine wC rfl ?_ | refine wD rfl ?_ | refine wE ?_ | refine wF (by omega) ?_ | ((first | refine wG ?_ | refine wH ?_ | refine wI ?_ | refine wJ ?_ | refine wK ?_ | refine wL ?_); simp (disch := omega) only [wP, wZ, undef, UInt8.reduceToNat, Nat.reduceOr, Nat.reduceAnd, Nat.reduceXor, Nat.reduceDiv, if_pos, if_neg, aStore, frz, AV.flat, ↓reduceIte, ne_eq, reduceCtorEq, Int.reduceToNat, Nat.reduceEqDiff, Nat.reduceAdd, Nat.reduceSub, Nat.reduceMul, Int.reduceAdd, Int.reduceMul, Int.reduceSub, Int.reduceLT, Int.reduceLE, Int.reduceEq, Int.reduceNe, Nat.reduceLeDiff, Nat.reduceLT, Int.reduceNeg, Nat.reducePow, Nat.reduceMod, ByteArray.size, entV, entL, boo, d0, d1]))
  have d1 : decide (a.uid = b.uid) = true := decide_eq_true h1
  rw [d1, Bool.true_and] at hZ
  by_cases h2 : a.gid = b.gid
  case neg =>
    have d2 : decide (a.gid = b.gid) = false := decide_eq_false h2
    rw [d2, Bool.false_and] at hZ
    subst hZ
    repeat (first | refine wA ?_ | refine wB ?_ | refine wC rfl ?_ | refine wD rfl ?_ | refine wE ?_ | refine wF (by omega) ?_ | ((first | refine wG ?_ | refine wH ?_ | refine wI ?_ | refine wJ ?_ | refine wK ?_ | refine wL ?_); simp (disch := omega) only [wP, wZ, undef, UInt8.reduceToNat, Nat.reduceOr, Nat.reduceAnd, Nat.reduceXor, Nat.reduceDiv, if_pos, if_neg, aStore, frz, AV.flat, ↓reduceIte, ne_eq, reduceCtorEq, Int.reduceToNat, Nat.reduceEqDiff, Nat.reduceAdd, Nat.reduceSub, Nat.reduceMul, Int.reduceAdd, Int.reduceMul, Int.reduceSub, Int.reduceLT, Int.reduceLE, Int.reduceEq, Int.reduceNe, Nat.reduceLeDiff, Nat.reduceLT, Int.reduceNeg, Nat.reducePow, Nat.reduceMod, ByteArray.size, entV, entL, boo, d0, d1, d2]))
  have d2 : decide (a.gid = b.gid) = true := decide_eq_true h2
  rw [d2, Bool.true_and] at hZ
  by_cases h3 : a.owner = b.owner
  case neg =>
    have d3 : decide (a.owner = b.owner) = false := decide_eq_false h3
    rw [d3, Bool.false_and] at hZ
    subst hZ
    repeat (first | refine wA ?_ | refine wB ?_ | refine wC rfl ?_ | refine wD rfl ?_ | refine wE ?_ | refine wF (by omega) ?_ | ((first | refine wG ?_ | refine wH ?_ | refine wI ?_ | refine wJ ?_ | refine wK ?_ | refine wL ?_); simp (disch := omega) only [wP, wZ, undef, UInt8.reduceToNat, Nat.reduceOr, Nat.reduceAnd, Nat.reduceXor, Nat.reduceDiv, if_pos, if_neg, aStore, frz, AV.flat, ↓reduceIte, ne_eq, reduceCtorEq, Int.reduceToNat, Nat.reduceEqDiff, Nat.reduceAdd, Nat.reduceSub, Nat.reduceMul, Int.reduceAdd, Int.reduceMul, Int.reduceSub, Int.reduceLT, Int.reduceLE, Int.reduceEq, Int.reduceNe, Nat.reduceLeDiff, Nat.reduceLT, Int.reduceNeg, Nat.reducePow, Nat.reduceMod, ByteArray.size, entV, entL, boo, d0, d1, d2, d3]))
  have d3 : decide (a.owner = b.owner) = true := decide_eq_true h3
  rw [d3, Bool.true_and] at hZ
  by_cases h4 : a.group = b.group
  case neg =>
    have d4 : decide (a.group = b.group) = false := decide_eq_false h4
    rw [d4, Bool.false_and] at hZ
    subst hZ
    repeat (first | refine wA ?_ | refine wB ?_ | refine wC rfl ?_ | refine wD rfl ?_ | refine wE ?_ | refine wF (by omega) ?_ | ((first | refine wG ?_ | refine wH ?_ | refine wI ?_ | refine wJ ?_ | refine wK ?_ | refine wL ?_); simp (disch := omega) only [wP, wZ, undef, UInt8.reduceToNat, Nat.reduceOr, Nat.reduceAnd, Nat.reduceXor, Nat.reduceDiv, if_pos, if_neg, aStore, frz, AV.flat, ↓reduceIte, ne_eq, reduceCtorEq, Int.reduceToNat, Nat.reduceEqDiff, Nat.reduceAdd, Nat.reduceSub, Nat.reduceMul, Int.reduceAdd, Int.reduceMul, Int.reduceSub, Int.reduceLT, Int.reduceLE, Int.reduceEq, Int.reduceNe, Nat.reduceLeDiff, Nat.reduceLT, Int.reduceNeg, Nat.reducePow, Nat.reduceMod, ByteArray.size, entV, entL, boo, d0, d1, d2, d3, d4]))
  have d4 : decide (a.group = b.group) = true := decide_eq_true h4
  rw [d4, Bool.true_and] at hZ
  subst hZ
  repeat (first | refine wA ?_ | refine wB ?_ | refine wC rfl ?_ | refine wD rfl ?_ | refine wE ?_ | refine wF (by omega) ?_ | ((first | refine wG ?_ | refine wH ?_ | refine wI ?_ | refine wJ ?_ | refine wK ?_ | refine wL ?_); simp (disch := omega) only [wP, wZ, undef, UInt8.reduceToNat, Nat.reduceOr, Nat.reduceAnd, Nat.reduceXor, Nat.reduceDiv, if_pos, if_neg, aStore, frz, AV.flat, ↓reduceIte, ne_eq, reduceCtorEq, Int.reduceToNat, Nat.reduceEqDiff, Nat.reduceAdd, Nat.reduceSub, Nat.reduceMul, Int.reduceAdd, Int.reduceMul, Int.reduceSub, Int.reduceLT, Int.reduceLE, Int.reduceEq, Int.reduceNe, Nat.reduceLeDiff, Nat.reduceLT, Int.reduceNeg, Nat.reducePow, Nat.reduceMod, ByteArray.size, entV, entL, boo, d0, d1, d2, d3, d4]))
end Go.Proofs.YtbmmdkbinlnogaaDoor.Aw
namespace Go.Proofs.YtbmmdkbinlnogaaDoor.Aw
open Go
set_option linter.unusedSimpArgs false
set_option linter.unusedVariables false
def kindOk (e : Ent) : Bool := decide (1 ≤ e.kind) && decide (e.kind ≤ 4)
def linkOk (e : Ent) : Bool := if e.kind = 3 then (!decide (e.link = []) && (decide (e.link.length ≤ 200) && (!hasB e.link 0 && !hasB e.link 10))) else if e.kind = 4 then (pathOk e.link && !decide (e.link = e.path)) else true
def argOk (e : Ent) : Bool := (decide (3 ≤ e.kind) || decide (e.link = [])) && (decide (e.kind = 1) || decide (e.data.length = 0))
def chk (e : Ent) : Int := if pathOk e.path = true then if kindOk e = true then if numFit e = true then if (ownOk e.owner && ownOk e.group) = true then if linkOk e = true then if argOk e = true then if e.data.length ≤ 1048576 then 0 else 4 else 1 else 10 else 10 else 1 else 9 else 10
def entS (e : Ent) : Prop := e.path.length ≤ 1000000 ∧ e.owner.length ≤ 1000000 ∧ e.group.length ≤ 1000000 ∧ e.link.length ≤ 1000000 ∧ e.data.length ≤ 10000000
set_option maxHeartbeats 4000000 in
set_option maxRecDepth 100000 in
theorem ref_Check_c [Tabs Tryd.prog] (e : Ent) (he : entS e) : Con Tryd.prog n_drayageref07_Check [entV e] (int (chk e)) := by
  obtain ⟨s1, s2, s3, s4, s5⟩ := he
  refine Con.of' mix Tryd.func18 rfl Tryd.ntmps18 e_drayageref07_Check r_drayageref07_Check (by simp) free_entV rfl ?_
  unfold s_drayageref07_Check
  obtain ⟨Z, hZ⟩ : ∃ Z, Z = chk e := ⟨_, rfl⟩
  rw [← hZ]
  rw [chk] at hZ
  repeat (first | refine wA ?_ | refine wB ?_ | refine wC rfl ?_ | refine wD rfl ?_ | refine wE ?_ | refine wF (by omega) ?_ | ((first | refine wG ?_ | refine wH ?_ | refine wI ?_ | refine wJ ?_ | refine wK ?_ | refine wL ?_); simp (disch := omega) only [wP, wZ, undef, UInt8.reduceToNat, Nat.reduceOr, Nat.reduceAnd, Nat.reduceXor, Nat.reduceDiv, if_pos, if_neg, aStore, frz, AV.flat, ↓reduceIte, ne_eq, reduceCtorEq, Int.reduceToNat, Nat.reduceEqDiff, Nat.reduceAdd, Nat.reduceSub, Nat.reduceMul, Int.reduceAdd, Int.reduceMul, Int.reduceSub, Int.reduceLT, Int.reduceLE, Int.reduceEq, Int.reduceNe, Nat.reduceLeDiff, Nat.reduceLT, Int.reduceNeg, Nat.reducePow, Nat.reduceMod, ByteArray.size, entV, entL]))
  refine goC_p _ (.inl ⟨rfl, ref_Path_c e.path s1⟩) ?_
  cases c1 : pathOk e.path
  · rw [c1, if_neg (by decide)] at hZ
    subst hZ
    repeat (first | refine wA ?_ | refine wB ?_ | refine wC rfl ?_ | refine wD rfl ?_ | refine wE ?_ | refine wF (by omega) ?_ | ((first | refine wG ?_ | refine wH ?_ | refine wI ?_ | refine wJ ?_ | refine wK ?_ | refine wL ?_); simp (disch := omega) only [wP, wZ, undef, UInt8.reduceToNat, Nat.reduceOr, Nat.reduceAnd, Nat.reduceXor, Nat.reduceDiv, if_pos, if_neg, aStore, frz, AV.flat, ↓reduceIte, ne_eq, reduceCtorEq, Int.reduceToNat, Nat.reduceEqDiff, Nat.reduceAdd, Nat.reduceSub, Nat.reduceMul, Int.reduceAdd, Int.reduceMul, Int.reduceSub, Int.reduceLT, Int.reduceLE, Int.reduceEq, Int.reduceNe, Nat.reduceLeDiff, Nat.reduceLT, Int.reduceNeg, Nat.reducePow, Nat.reduceMod, ByteArray.size, boo]))
  rw [if_pos c1] at hZ
  by_cases kdk0 : e.kind < 1
  · have dk0 : decide (e.kind < 1) = true := decide_eq_true (by omega)
    have hn : kindOk e = false := Bool.eq_false_iff.2 (fun h => by simp only [kindOk, Bool.and_eq_true, decide_eq_true_eq] at h; omega)
    rw [hn, if_neg (by decide)] at hZ
    subst hZ
    repeat (first | refine wA ?_ | refine wB ?_ | refine wC rfl ?_ | refine wD rfl ?_ | refine wE ?_ | refine wF (by omega) ?_ | ((first | refine wG ?_ | refine wH ?_ | refine wI ?_ | refine wJ ?_ | refine wK ?_ | refine wL ?_); simp (disch := omega) only [wP, wZ, undef, UInt8.reduceToNat, Nat.reduceOr, Nat.reduceAnd, Nat.reduceXor, Nat.reduceDiv, if_pos, if_neg, aStore, frz, AV.flat, ↓reduceIte, ne_eq, reduceCtorEq, Int.reduceToNat, Nat.reduceEqDiff, Nat.reduceAdd, Nat.reduceSub, Nat.reduceMul, Int.reduceAdd, Int.reduceMul, Int.reduceSub, Int.reduceLT, Int.reduceLE, Int.reduceEq, Int.reduceNe, Nat.reduceLeDiff, Nat.reduceLT, Int.reduceNeg, Nat.reducePow, Nat.reduceMod, ByteArray.size, boo, dk0]))
  have dk0 : decide (e.kind < 1) = false := decide_eq_false (by omega)
  by_cases kdk1 : 4 < e.kind
  · have dk1 : decide (4 < e.kind) = true := decide_eq_true (by omega)
    have hn : kindOk e = false := Bool.eq_false_iff.2 (fun h => by simp only [kindOk, Bool.and_eq_true, decide_eq_true_eq] at h; omega)
    rw [hn, if_neg (by decide)] at hZ
    subst hZ
    repeat (first | refine wA ?_ | refine wB ?_ | refine wC rfl ?_ | refine wD rfl ?_ | refine wE ?_ | refine wF (by omega) ?_ | ((first | refine wG ?_ | refine wH ?_ | refine wI ?_ | refine wJ ?_ | refine wK ?_ | refine wL ?_); simp (disch := omega) only [wP, wZ, undef, UInt8.reduceToNat, Nat.reduceOr, Nat.reduceAnd, Nat.reduceXor, Nat.reduceDiv, if_pos, if_neg, aStore, frz, AV.flat, ↓reduceIte, ne_eq, reduceCtorEq, Int.reduceToNat, Nat.reduceEqDiff, Nat.reduceAdd, Nat.reduceSub, Nat.reduceMul, Int.reduceAdd, Int.reduceMul, Int.reduceSub, Int.reduceLT, Int.reduceLE, Int.reduceEq, Int.reduceNe, Nat.reduceLeDiff, Nat.reduceLT, Int.reduceNeg, Nat.reducePow, Nat.reduceMod, ByteArray.size, boo, dk0, dk1]))
  have dk1 : decide (4 < e.kind) = false := decide_eq_false (by omega)
  have hndk : kindOk e = true := by simp only [kindOk, Bool.and_eq_true, decide_eq_true_eq]; omega
  rw [if_pos hndk] at hZ
  by_cases kdm0 : e.mode < 0
  · have dm0 : decide (e.mode < 0) = true := decide_eq_true (by omega)
    have hn : numFit e = false := Bool.eq_false_iff.2 (fun h => by simp only [numFit, upTo, Bool.and_eq_true, decide_eq_true_eq] at h; omega)
    rw [hn, if_neg (by decide)] at hZ
    subst hZ
    repeat (first | refine wA ?_ | refine wB ?_ | refine wC rfl ?_ | refine wD rfl ?_ | refine wE ?_ | refine wF (by omega) ?_ | ((first | refine wG ?_ | refine wH ?_ | refine wI ?_ | refine wJ ?_ | refine wK ?_ | refine wL ?_); simp (disch := omega) only [wP, wZ, undef, UInt8.reduceToNat, Nat.reduceOr, Nat.reduceAnd, Nat.reduceXor, Nat.reduceDiv, if_pos, if_neg, aStore, frz, AV.flat, ↓reduceIte, ne_eq, reduceCtorEq, Int.reduceToNat, Nat.reduceEqDiff, Nat.reduceAdd, Nat.reduceSub, Nat.reduceMul, Int.reduceAdd, Int.reduceMul, Int.reduceSub, Int.reduceLT, Int.reduceLE, Int.reduceEq, Int.reduceNe, Nat.reduceLeDiff, Nat.reduceLT, Int.reduceNeg, Nat.reducePow, Nat.reduceMod, ByteArray.size, boo, dk0, dk1, dm0]))
  have dm0 : decide (e.mode < 0) = false := decide_eq_false (by omega)
  by_cases kdm1 : 4095 < e.mode
  · have dm1 : decide (4095 < e.mode) = true := decide_eq_true (by omega)
    have hn : numFit e = false := Bool.eq_false_iff.2 (fun h => by simp only [numFit, upTo, Bool.and_eq_true, decide_eq_true_eq] at h; omega)
    rw [hn, if_neg (by decide)] at hZ
    subst hZ
    repeat (first | refine wA ?_ | refine wB ?_ | refine wC rfl ?_ | refine wD rfl ?_ | refine wE ?_ | refine wF (by omega) ?_ | ((first | refine wG ?_ | refine wH ?_ | refine wI ?_ | refine wJ ?_ | refine wK ?_ | refine wL ?_); simp (disch := omega) only [wP, wZ, undef, UInt8.reduceToNat, Nat.reduceOr, Nat.reduceAnd, Nat.reduceXor, Nat.reduceDiv, if_pos, if_neg, aStore, frz, AV.flat, ↓reduceIte, ne_eq, reduceCtorEq, Int.reduceToNat, Nat.reduceEqDiff, Nat.reduceAdd, Nat.reduceSub, Nat.reduceMul, Int.reduceAdd, Int.reduceMul, Int.reduceSub, Int.reduceLT, Int.reduceLE, Int.reduceEq, Int.reduceNe, Nat.reduceLeDiff, Nat.reduceLT, Int.reduceNeg, Nat.reducePow, Nat.reduceMod, ByteArray.size, boo, dk0, dk1, dm0, dm1]))
  have dm1 : decide (4095 < e.mode) = false := decide_eq_false (by omega)
  by_cases kdm2 : e.uid < 0
  · have dm2 : decide (e.uid < 0) = true := decide_eq_true (by omega)
    have hn : numFit e = false := Bool.eq_false_iff.2 (fun h => by simp only [numFit, upTo, Bool.and_eq_true, decide_eq_true_eq] at h; omega)
    rw [hn, if_neg (by decide)] at hZ
    subst hZ
    repeat (first | refine wA ?_ | refine wB ?_ | refine wC rfl ?_ | refine wD rfl ?_ | refine wE ?_ | refine wF (by omega) ?_ | ((first | refine wG ?_ | refine wH ?_ | refine wI ?_ | refine wJ ?_ | refine wK ?_ | refine wL ?_); simp (disch := omega) only [wP, wZ, undef, UInt8.reduceToNat, Nat.reduceOr, Nat.reduceAnd, Nat.reduceXor, Nat.reduceDiv, if_pos, if_neg, aStore, frz, AV.flat, ↓reduceIte, ne_eq, reduceCtorEq, Int.reduceToNat, Nat.reduceEqDiff, Nat.reduceAdd, Nat.reduceSub, Nat.reduceMul, Int.reduceAdd, Int.reduceMul, Int.reduceSub, Int.reduceLT, Int.reduceLE, Int.reduceEq, Int.reduceNe, Nat.reduceLeDiff, Nat.reduceLT, Int.reduceNeg, Nat.reducePow, Nat.reduceMod, ByteArray.size, boo, dk0, dk1, dm0, dm1, dm2]))
  have dm2 : decide (e.uid < 0) = false := decide_eq_false (by omega)
  by_cases kdm3 : 2097151 < e.uid
  · have dm3 : decide (2097151 < e.uid) = true := decide_eq_true (by omega)
    have hn : numFit e = false := Bool.eq_false_iff.2 (fun h => by simp only [numFit, upTo, Bool.and_eq_true, decide_eq_true_eq] at h; omega)
    rw [hn, if_neg (by decide)] at hZ
    subst hZ
    repeat (first | refine wA ?_ | refine wB ?_ | refine wC rfl ?_ | refine wD rfl ?_ | refine wE ?_ | refine wF (by omega) ?_ | ((first | refine wG ?_ | refine wH ?_ | refine wI ?_ | refine wJ ?_ | refine wK ?_ | refine wL ?_); simp (disch := omega) only [wP, wZ, undef, UInt8.reduceToNat, Nat.reduceOr, Nat.reduceAnd, Nat.reduceXor, Nat.reduceDiv, if_pos, if_neg, aStore, frz, AV.flat, ↓reduceIte, ne_eq, reduceCtorEq, Int.reduceToNat, Nat.reduceEqDiff, Nat.reduceAdd, Nat.reduceSub, Nat.reduceMul, Int.reduceAdd, Int.reduceMul, Int.reduceSub, Int.reduceLT, Int.reduceLE, Int.reduceEq, Int.reduceNe, Nat.reduceLeDiff, Nat.reduceLT, Int.reduceNeg, Nat.reducePow, Nat.reduceMod, ByteArray.size, boo, dk0, dk1, dm0, dm1, dm2, dm3]))
  have dm3 : decide (2097151 < e.uid) = false := decide_eq_false (by omega)
  by_cases kdm4 : e.gid < 0
  · have dm4 : decide (e.gid < 0) = true := decide_eq_true (by omega)
    have hn : numFit e = false := Bool.eq_false_iff.2 (fun h => by simp only [numFit, upTo, Bool.and_eq_true, decide_eq_true_eq] at h; omega)
    rw [hn, if_neg (by decide)] at hZ
    subst hZ
    repeat (first | refine wA ?_ | refine wB ?_ | refine wC rfl ?_ | refine wD rfl ?_ | refine wE ?_ | refine wF (by omega) ?_ | ((first | refine wG ?_ | refine wH ?_ | refine wI ?_ | refine wJ ?_ | refine wK ?_ | refine wL ?_); simp (disch := omega) only [wP, wZ, undef, UInt8.reduceToNat, Nat.reduceOr, Nat.reduceAnd, Nat.reduceXor, Nat.reduceDiv, if_pos, if_neg, aStore, frz, AV.flat, ↓reduceIte, ne_eq, reduceCtorEq, Int.reduceToNat, Nat.reduceEqDiff, Nat.reduceAdd, Nat.reduceSub, Nat.reduceMul, Int.reduceAdd, Int.reduceMul, Int.reduceSub, Int.reduceLT, Int.reduceLE, Int.reduceEq, Int.reduceNe, Nat.reduceLeDiff, Nat.reduceLT, Int.reduceNeg, Nat.reducePow, Nat.reduceMod, ByteArray.size, boo, dk0, dk1, dm0, dm1, dm2, dm3, dm4]))
  have dm4 : decide (e.gid < 0) = false := decide_eq_false (by omega)
  by_cases kdm5 : 2097151 < e.gid
  · have dm5 : decide (2097151 < e.gid) = true := decide_eq_true (by omega)
    have hn : numFit e = false := Bool.eq_false_iff.2 (fun h => by simp only [numFit, upTo, Bool.and_eq_true, decide_eq_true_eq] at h; omega)
    rw [hn, if_neg (by decide)] at hZ
    subst hZ
    repeat (first | refine wA ?_ | refine wB ?_ | refine wC rfl ?_ | refine wD rfl ?_ | refine wE ?_ | refine wF (by omega) ?_ | ((first | refine wG ?_ | refine wH ?_ | refine wI ?_ | refine wJ ?_ | refine wK ?_ | refine wL ?_); simp (disch := omega) only [wP, wZ, undef, UInt8.reduceToNat, Nat.reduceOr, Nat.reduceAnd, Nat.reduceXor, Nat.reduceDiv, if_pos, if_neg, aStore, frz, AV.flat, ↓reduceIte, ne_eq, reduceCtorEq, Int.reduceToNat, Nat.reduceEqDiff, Nat.reduceAdd, Nat.reduceSub, Nat.reduceMul, Int.reduceAdd, Int.reduceMul, Int.reduceSub, Int.reduceLT, Int.reduceLE, Int.reduceEq, Int.reduceNe, Nat.reduceLeDiff, Nat.reduceLT, Int.reduceNeg, Nat.reducePow, Nat.reduceMod, ByteArray.size, boo, dk0, dk1, dm0, dm1, dm2, dm3, dm4, dm5]))
  have dm5 : decide (2097151 < e.gid) = false := decide_eq_false (by omega)
  by_cases kdm6 : e.mtime < 0
  · have dm6 : decide (e.mtime < 0) = true := decide_eq_true (by omega)
    have hn : numFit e = false := Bool.eq_false_iff.2 (fun h => by simp only [numFit, upTo, Bool.and_eq_true, decide_eq_true_eq] at h; omega)
    rw [hn, if_neg (by decide)] at hZ
    subst hZ
    repeat (first | refine wA ?_ | refine wB ?_ | refine wC rfl ?_ | refine wD rfl ?_ | refine wE ?_ | refine wF (by omega) ?_ | ((first | refine wG ?_ | refine wH ?_ | refine wI ?_ | refine wJ ?_ | refine wK ?_ | refine wL ?_); simp (disch := omega) only [wP, wZ, undef, UInt8.reduceToNat, Nat.reduceOr, Nat.reduceAnd, Nat.reduceXor, Nat.reduceDiv, if_pos, if_neg, aStore, frz, AV.flat, ↓reduceIte, ne_eq, reduceCtorEq, Int.reduceToNat, Nat.reduceEqDiff, Nat.reduceAdd, Nat.reduceSub, Nat.reduceMul, Int.reduceAdd, Int.reduceMul, Int.reduceSub, Int.reduceLT, Int.reduceLE, Int.reduceEq, Int.reduceNe, Nat.reduceLeDiff, Nat.reduceLT, Int.reduceNeg, Nat.reducePow, Nat.reduceMod, ByteArray.size, boo, dk0, dk1, dm0, dm1, dm2, dm3, dm4, dm5, dm6]))
  have dm6 : decide (e.mtime < 0) = false := decide_eq_false (by omega)
  by_cases kdm7 : 8589934591 < e.mtime
  · have dm7 : decide (8589934591 < e.mtime) = true := decide_eq_true (by omega)
    have hn : numFit e = false := Bool.eq_false_iff.2 (fun h => by simp only [numFit, upTo, Bool.and_eq_true, decide_eq_true_eq] at h; omega)
    rw [hn, if_neg (by decide)] at hZ
    subst hZ
    repeat (first | refine wA ?_ | refine wB ?_ | refine wC rfl ?_ | refine wD rfl ?_ | refine wE ?_ | refine wF (by omega) ?_ | ((first | refine wG ?_ | refine wH ?_ | refine wI ?_ | refine wJ ?_ | refine wK ?_ | refine wL ?_); simp (disch := omega) only [wP, wZ, undef, UInt8.reduceToNat, Nat.reduceOr, Nat.reduceAnd, Nat.reduceXor, Nat.reduceDiv, if_pos, if_neg, aStore, frz, AV.flat, ↓reduceIte, ne_eq, reduceCtorEq, Int.reduceToNat, Nat.reduceEqDiff, Nat.reduceAdd, Nat.reduceSub, Nat.reduceMul, Int.reduceAdd, Int.reduceMul, Int.reduceSub, Int.reduceLT, Int.reduceLE, Int.reduceEq, Int.reduceNe, Nat.reduceLeDiff, Nat.reduceLT, Int.reduceNeg, Nat.reducePow, Nat.reduceMod, ByteArray.size, boo, dk0, dk1, dm0, dm1, dm2, dm3, dm4, dm5, dm6, dm7]))
  have dm7 : decide (8589934591 < e.mtime) = false := decide_eq_false (by omega)
  have hndm : numFit e = true := by simp only [numFit, upTo, Bool.and_eq_true, decide_eq_true_eq]; omega
  rw [if_pos hndm] at hZ
  repeat (first | refine wA ?_ | refine wB ?_ | refine wC rfl ?_ | refine wD rfl ?_ | refine wE ?_ | refine wF (by omega) ?_ | ((first | refine wG ?_ | refine wH ?_ | refine wI ?_ | refine wJ ?_ | refine wK ?_ | refine wL ?_); simp (disch := omega) only [wP, wZ, undef, UInt8.reduceToNat, Nat.reduceOr, Nat.reduceAnd, Nat.reduceXor, Nat.reduceDiv, if_pos, if_neg, aStore, frz, AV.flat, ↓reduceIte, ne_eq, reduceCtorEq, Int.reduceToNat, Nat.reduceEqDiff, Nat.reduceAdd, Nat.reduceSub, Nat.reduceMul, Int.reduceAdd, Int.reduceMul, Int.reduceSub, Int.reduceLT, Int.reduceLE, Int.reduceEq, Int.reduceNe, Nat.reduceLeDiff, Nat.reduceLT, Int.reduceNeg, Nat.reducePow, Nat.reduceMod, ByteArray.size, boo, dk0, dk1, dm0, dm1, dm2, dm3, dm4, dm5, dm6, dm7]))
  refine goC_p _ (.inl ⟨rfl, ref_owner_c e.owner s2⟩) ?_
  cases c2 : ownOk e.owner
  · rw [c2, Bool.false_and, if_neg (by decide)] at hZ
    subst hZ
    repeat (first | refine wA ?_ | refine wB ?_ | refine wC rfl ?_ | refine wD rfl ?_ | refine wE ?_ | refine wF (by omega) ?_ | ((first | refine wG ?_ | refine wH ?_ | refine wI ?_ | refine wJ ?_ | refine wK ?_ | refine wL ?_); simp (disch := omega) only [wP, wZ, undef, UInt8.reduceToNat, Nat.reduceOr, Nat.reduceAnd, Nat.reduceXor, Nat.reduceDiv, if_pos, if_neg, aStore, frz, AV.flat, ↓reduceIte, ne_eq, reduceCtorEq, Int.reduceToNat, Nat.reduceEqDiff, Nat.reduceAdd, Nat.reduceSub, Nat.reduceMul, Int.reduceAdd, Int.reduceMul, Int.reduceSub, Int.reduceLT, Int.reduceLE, Int.reduceEq, Int.reduceNe, Nat.reduceLeDiff, Nat.reduceLT, Int.reduceNeg, Nat.reducePow, Nat.reduceMod, ByteArray.size, boo]))
  rw [c2, Bool.true_and] at hZ
  repeat (first | refine wA ?_ | refine wB ?_ | refine wC rfl ?_ | refine wD rfl ?_ | refine wE ?_ | refine wF (by omega) ?_ | ((first | refine wG ?_ | refine wH ?_ | refine wI ?_ | refine wJ ?_ | refine wK ?_ | refine wL ?_); simp (disch := omega) only [wP, wZ, undef, UInt8.reduceToNat, Nat.reduceOr, Nat.reduceAnd, Nat.reduceXor, Nat.reduceDiv, if_pos, if_neg, aStore, frz, AV.flat, ↓reduceIte, ne_eq, reduceCtorEq, Int.reduceToNat, Nat.reduceEqDiff, Nat.reduceAdd, Nat.reduceSub, Nat.reduceMul, Int.reduceAdd, Int.reduceMul, Int.reduceSub, Int.reduceLT, Int.reduceLE, Int.reduceEq, Int.reduceNe, Nat.reduceLeDiff, Nat.reduceLT, Int.reduceNeg, Nat.reducePow, Nat.reduceMod, ByteArray.size, boo]))
  refine goC_p _ (.inl ⟨rfl, ref_owner_c e.group s3⟩) ?_
  cases c3 : ownOk e.group
  · rw [c3, if_neg (by decide)] at hZ
    subst hZ
    repeat (first | refine wA ?_ | refine wB ?_ | refine wC rfl ?_ | refine wD rfl ?_ | refine wE ?_ | refine wF (by omega) ?_ | ((first | refine wG ?_ | refine wH ?_ | refine wI ?_ | refine wJ ?_ | refine wK ?_ | refine wL ?_); simp (disch := omega) only [wP, wZ, undef, UInt8.reduceToNat, Nat.reduceOr, Nat.reduceAnd, Nat.reduceXor, Nat.reduceDiv, if_pos, if_neg, aStore, frz, AV.flat, ↓reduceIte, ne_eq, reduceCtorEq, Int.reduceToNat, Nat.reduceEqDiff, Nat.reduceAdd, Nat.reduceSub, Nat.reduceMul, Int.reduceAdd, Int.reduceMul, Int.reduceSub, Int.reduceLT, Int.reduceLE, Int.reduceEq, Int.reduceNe, Nat.reduceLeDiff, Nat.reduceLT, Int.reduceNeg, Nat.reducePow, Nat.reduceMod, ByteArray.size, boo]))
  rw [if_pos c3] at hZ
  repeat (first | refine wA ?_ | refine wB ?_ | refine wC rfl ?_ | refine wD rfl ?_ | refine wE ?_ | refine wF (by omega) ?_ | ((first | refine wG ?_ | refine wH ?_ | refine wI ?_ | refine wJ ?_ | refine wK ?_ | refine wL ?_); simp (disch := omega) only [wP, wZ, undef, UInt8.reduceToNat, Nat.reduceOr, Nat.reduceAnd, Nat.reduceXor, Nat.reduceDiv, if_pos, if_neg, aStore, frz, AV.flat, ↓reduceIte, ne_eq, reduceCtorEq, Int.reduceToNat, Nat.reduceEqDiff, Nat.reduceAdd, Nat.reduceSub, Nat.reduceMul, Int.reduceAdd, Int.reduceMul, Int.reduceSub, Int.reduceLT, Int.reduceLE, Int.reduceEq, Int.reduceNe, Nat.reduceLeDiff, Nat.reduceLT, Int.reduceNeg, Nat.reducePow, Nat.reduceMod, ByteArray.size, boo]))
  refine SWp.le (st' := mk 126 1 [(1, .op 1 0 0)] [(1, 0, .row false (entL e))]) (le_mk rfl ?_ ?_ ?_) ?_
  iterate 3 (case _ => simp (disch := omega) only [wP, wZ, undef, UInt8.reduceToNat, Nat.reduceOr, Nat.reduceAnd, Nat.reduceXor, Nat.reduceDiv, if_pos, if_neg, aStore, frz, AV.flat, ↓reduceIte, ne_eq, reduceCtorEq, Int.reduceToNat, Nat.reduceEqDiff, Nat.reduceAdd, Nat.reduceSub, Nat.reduceMul, Int.reduceAdd, Int.reduceMul, Int.reduceSub, Int.reduceLT, Int.reduceLE, Int.reduceEq, Int.reduceNe, Nat.reduceLeDiff, Nat.reduceLT, Int.reduceNeg, Nat.reducePow, Nat.reduceMod, ByteArray.size, entL])
  unfold kindOk at hndk
  simp only [Bool.and_eq_true, decide_eq_true_eq] at hndk
  obtain ⟨b1, b2⟩ := hndk
  by_cases k3 : e.kind = 3
  · have q3 : decide (e.kind = 3) = true := decide_eq_true k3
    have q4 : decide (e.kind = 4) = false := decide_eq_false (by omega)
    have q1 : decide (e.kind = 1) = false := decide_eq_false (by omega)
    have ql : decide (e.kind < 3) = false := decide_eq_false (by omega)
    by_cases l0 : e.link = []
    · have r0 : decide (e.link = []) = true := decide_eq_true l0
      have hn : linkOk e = false := by rw [linkOk, if_pos k3, r0]; rfl
      rw [hn, if_neg (by decide)] at hZ
      subst hZ
      repeat (first | refine wA ?_ | refine wB ?_ | refine wC rfl ?_ | refine wD rfl ?_ | refine wE ?_ | refine wF (by omega) ?_ | ((first | refine wG ?_ | refine wH ?_ | refine wI ?_ | refine wJ ?_ | refine wK ?_ | refine wL ?_); simp (disch := omega) only [wP, wZ, undef, UInt8.reduceToNat, Nat.reduceOr, Nat.reduceAnd, Nat.reduceXor, Nat.reduceDiv, if_pos, if_neg, aStore, frz, AV.flat, ↓reduceIte, ne_eq, reduceCtorEq, Int.reduceToNat, Nat.reduceEqDiff, Nat.reduceAdd, Nat.reduceSub, Nat.reduceMul, Int.reduceAdd, Int.reduceMul, Int.reduceSub, Int.reduceLT, Int.reduceLE, Int.reduceEq, Int.reduceNe, Nat.reduceLeDiff, Nat.reduceLT, Int.reduceNeg, Nat.reducePow, Nat.reduceMod, ByteArray.size, boo, entL, q3, r0]))
    have r0 : decide (e.link = []) = false := decide_eq_false l0
    rw [linkOk, if_pos k3, r0, Bool.not_false, Bool.true_and] at hZ
    by_cases l1 : 200 < e.link.length
    · have r1 : decide ((200 : Int) < (e.link.length : Int)) = true := decide_eq_true (by omega)
      rw [decide_eq_false (by omega : ¬ e.link.length ≤ 200), Bool.false_and, if_neg (by decide)] at hZ
      subst hZ
      repeat (first | refine wA ?_ | refine wB ?_ | refine wC rfl ?_ | refine wD rfl ?_ | refine wE ?_ | refine wF (by omega) ?_ | ((first | refine wG ?_ | refine wH ?_ | refine wI ?_ | refine wJ ?_ | refine wK ?_ | refine wL ?_); simp (disch := omega) only [wP, wZ, undef, UInt8.reduceToNat, Nat.reduceOr, Nat.reduceAnd, Nat.reduceXor, Nat.reduceDiv, if_pos, if_neg, aStore, frz, AV.flat, ↓reduceIte, ne_eq, reduceCtorEq, Int.reduceToNat, Nat.reduceEqDiff, Nat.reduceAdd, Nat.reduceSub, Nat.reduceMul, Int.reduceAdd, Int.reduceMul, Int.reduceSub, Int.reduceLT, Int.reduceLE, Int.reduceEq, Int.reduceNe, Nat.reduceLeDiff, Nat.reduceLT, Int.reduceNeg, Nat.reducePow, Nat.reduceMod, ByteArray.size, boo, entL, q3, r0, r1]))
    have r1 : decide ((200 : Int) < (e.link.length : Int)) = false := decide_eq_false (by omega)
    rw [decide_eq_true (by omega : e.link.length ≤ 200), Bool.true_and] at hZ
    repeat (first | refine wA ?_ | refine wB ?_ | refine wC rfl ?_ | refine wD rfl ?_ | refine wE ?_ | refine wF (by omega) ?_ | ((first | refine wG ?_ | refine wH ?_ | refine wI ?_ | refine wJ ?_ | refine wK ?_ | refine wL ?_); simp (disch := omega) only [wP, wZ, undef, UInt8.reduceToNat, Nat.reduceOr, Nat.reduceAnd, Nat.reduceXor, Nat.reduceDiv, if_pos, if_neg, aStore, frz, AV.flat, ↓reduceIte, ne_eq, reduceCtorEq, Int.reduceToNat, Nat.reduceEqDiff, Nat.reduceAdd, Nat.reduceSub, Nat.reduceMul, Int.reduceAdd, Int.reduceMul, Int.reduceSub, Int.reduceLT, Int.reduceLE, Int.reduceEq, Int.reduceNe, Nat.reduceLeDiff, Nat.reduceLT, Int.reduceNeg, Nat.reducePow, Nat.reduceMod, ByteArray.size, boo, entL, q3, r0, r1]))
    refine goC_p _ (.inl ⟨rfl, ref_Has_c e.link s4 0⟩) ?_
    rw [show decide (0 ≤ Lib.indexByte e.link 0) = hasB e.link 0 from rfl]
    cases l2 : hasB e.link 0
    case true =>
      rw [l2, Bool.not_true, Bool.false_and, if_neg (by decide)] at hZ
      subst hZ
      repeat (first | refine wA ?_ | refine wB ?_ | refine wC rfl ?_ | refine wD rfl ?_ | refine wE ?_ | refine wF (by omega) ?_ | ((first | refine wG ?_ | refine wH ?_ | refine wI ?_ | refine wJ ?_ | refine wK ?_ | refine wL ?_); simp (disch := omega) only [wP, wZ, undef, UInt8.reduceToNat, Nat.reduceOr, Nat.reduceAnd, Nat.reduceXor, Nat.reduceDiv, if_pos, if_neg, aStore, frz, AV.flat, ↓reduceIte, ne_eq, reduceCtorEq, Int.reduceToNat, Nat.reduceEqDiff, Nat.reduceAdd, Nat.reduceSub, Nat.reduceMul, Int.reduceAdd, Int.reduceMul, Int.reduceSub, Int.reduceLT, Int.reduceLE, Int.reduceEq, Int.reduceNe, Nat.reduceLeDiff, Nat.reduceLT, Int.reduceNeg, Nat.reducePow, Nat.reduceMod, ByteArray.size, boo, entL, q3, r0, r1]))
    rw [l2, Bool.not_false, Bool.true_and] at hZ
    repeat (first | refine wA ?_ | refine wB ?_ | refine wC rfl ?_ | refine wD rfl ?_ | refine wE ?_ | refine wF (by omega) ?_ | ((first | refine wG ?_ | refine wH ?_ | refine wI ?_ | refine wJ ?_ | refine wK ?_ | refine wL ?_); simp (disch := omega) only [wP, wZ, undef, UInt8.reduceToNat, Nat.reduceOr, Nat.reduceAnd, Nat.reduceXor, Nat.reduceDiv, if_pos, if_neg, aStore, frz, AV.flat, ↓reduceIte, ne_eq, reduceCtorEq, Int.reduceToNat, Nat.reduceEqDiff, Nat.reduceAdd, Nat.reduceSub, Nat.reduceMul, Int.reduceAdd, Int.reduceMul, Int.reduceSub, Int.reduceLT, Int.reduceLE, Int.reduceEq, Int.reduceNe, Nat.reduceLeDiff, Nat.reduceLT, Int.reduceNeg, Nat.reducePow, Nat.reduceMod, ByteArray.size, boo, entL, q3, r0, r1]))
    refine goC_p _ (.inl ⟨rfl, ref_Has_c e.link s4 10⟩) ?_
    rw [show decide (0 ≤ Lib.indexByte e.link 10) = hasB e.link 10 from rfl]
    cases l3 : hasB e.link 10
    case true =>
      rw [l3, Bool.not_true, if_neg (by decide)] at hZ
      subst hZ
      repeat (first | refine wA ?_ | refine wB ?_ | refine wC rfl ?_ | refine wD rfl ?_ | refine wE ?_ | refine wF (by omega) ?_ | ((first | refine wG ?_ | refine wH ?_ | refine wI ?_ | refine wJ ?_ | refine wK ?_ | refine wL ?_); simp (disch := omega) only [wP, wZ, undef, UInt8.reduceToNat, Nat.reduceOr, Nat.reduceAnd, Nat.reduceXor, Nat.reduceDiv, if_pos, if_neg, aStore, frz, AV.flat, ↓reduceIte, ne_eq, reduceCtorEq, Int.reduceToNat, Nat.reduceEqDiff, Nat.reduceAdd, Nat.reduceSub, Nat.reduceMul, Int.reduceAdd, Int.reduceMul, Int.reduceSub, Int.reduceLT, Int.reduceLE, Int.reduceEq, Int.reduceNe, Nat.reduceLeDiff, Nat.reduceLT, Int.reduceNeg, Nat.reducePow, Nat.reduceMod, ByteArray.size, boo, entL, q3, r0, r1]))
    rw [l3, Bool.not_false, if_pos rfl] at hZ
    have hr : (decide (3 ≤ e.kind) || decide (e.link = [])) = true := by rw [decide_eq_true (by omega : 3 ≤ e.kind), Bool.true_or]
    rw [argOk, hr, q1, Bool.true_and, Bool.false_or] at hZ
    by_cases m0 : e.data.length = 0
    · have v0 : decide ((0 : Int) < (e.data.length : Int)) = false := decide_eq_false (by omega)
      have v1 : decide ((1048576 : Int) < (e.data.length : Int)) = false := decide_eq_false (by omega)
      rw [decide_eq_true m0, if_pos rfl, if_pos (by omega)] at hZ
      subst hZ
      repeat (first | refine wA ?_ | refine wB ?_ | refine wC rfl ?_ | refine wD rfl ?_ | refine wE ?_ | refine wF (by omega) ?_ | ((first | refine wG ?_ | refine wH ?_ | refine wI ?_ | refine wJ ?_ | refine wK ?_ | refine wL ?_); simp (disch := omega) only [wP, wZ, undef, UInt8.reduceToNat, Nat.reduceOr, Nat.reduceAnd, Nat.reduceXor, Nat.reduceDiv, if_pos, if_neg, aStore, frz, AV.flat, ↓reduceIte, ne_eq, reduceCtorEq, Int.reduceToNat, Nat.reduceEqDiff, Nat.reduceAdd, Nat.reduceSub, Nat.reduceMul, Int.reduceAdd, Int.reduceMul, Int.reduceSub, Int.reduceLT, Int.reduceLE, Int.reduceEq, Int.reduceNe, Nat.reduceLeDiff, Nat.reduceLT, Int.reduceNeg, Nat.reducePow, Nat.reduceMod, ByteArray.size, boo, entL, q3, q4, ql, q1, r0, r1, v0, v1, List.length_map]))
    · have v0 : decide ((0 : Int) < (e.data.length : Int)) = true := decide_eq_true (by omega)
      rw [decide_eq_false m0, if_neg (by decide)] at hZ
      subst hZ
      repeat (first | refine wA ?_ | refine wB ?_ | refine wC rfl ?_ | refine wD rfl ?_ | refine wE ?_ | refine wF (by omega) ?_ | ((first | refine wG ?_ | refine wH ?_ | refine wI ?_ | refine wJ ?_ | refine wK ?_ | refine wL ?_); simp (disch := omega) only [wP, wZ, undef, UInt8.reduceToNat, Nat.reduceOr, Nat.reduceAnd, Nat.reduceXor, Nat.reduceDiv, if_pos, if_neg, aStore, frz, AV.flat, ↓reduceIte, ne_eq, reduceCtorEq, Int.reduceToNat, Nat.reduceEqDiff, Nat.reduceAdd, Nat.reduceSub, Nat.reduceMul, Int.reduceAdd, Int.reduceMul, Int.reduceSub, Int.reduceLT, Int.reduceLE, Int.reduceEq, Int.reduceNe, Nat.reduceLeDiff, Nat.reduceLT, Int.reduceNeg, Nat.reducePow, Nat.reduceMod, ByteArray.size, boo, entL, q3, q4, ql, q1, r0, r1, v0, List.length_map]))
  have q3 : decide (e.kind = 3) = false := decide_eq_false k3
  by_cases k4 : e.kind = 4
  · have q4 : decide (e.kind = 4) = true := decide_eq_true k4
    have q1 : decide (e.kind = 1) = false := decide_eq_false (by omega)
    have ql : decide (e.kind < 3) = false := decide_eq_false (by omega)
    rw [linkOk, if_neg k3, if_pos k4] at hZ
    repeat (first | refine wA ?_ | refine wB ?_ | refine wC rfl ?_ | refine wD rfl ?_ | refine wE ?_ | refine wF (by omega) ?_ | ((first | refine wG ?_ | refine wH ?_ | refine wI ?_ | refine wJ ?_ | refine wK ?_ | refine wL ?_); simp (disch := omega) only [wP, wZ, undef, UInt8.reduceToNat, Nat.reduceOr, Nat.reduceAnd, Nat.reduceXor, Nat.reduceDiv, if_pos, if_neg, aStore, frz, AV.flat, ↓reduceIte, ne_eq, reduceCtorEq, Int.reduceToNat, Nat.reduceEqDiff, Nat.reduceAdd, Nat.reduceSub, Nat.reduceMul, Int.reduceAdd, Int.reduceMul, Int.reduceSub, Int.reduceLT, Int.reduceLE, Int.reduceEq, Int.reduceNe, Nat.reduceLeDiff, Nat.reduceLT, Int.reduceNeg, Nat.reducePow, Nat.reduceMod, ByteArray.size, boo, entL, q3, q4]))
    refine goC_p _ (.inl ⟨rfl, ref_Path_c e.link s4⟩) ?_
    cases l1 : pathOk e.link
    · rw [l1, Bool.false_and, if_neg (by decide)] at hZ
      subst hZ
      repeat (first | refine wA ?_ | refine wB ?_ | refine wC rfl ?_ | refine wD rfl ?_ | refine wE ?_ | refine wF (by omega) ?_ | ((first | refine wG ?_ | refine wH ?_ | refine wI ?_ | refine wJ ?_ | refine wK ?_ | refine wL ?_); simp (disch := omega) only [wP, wZ, undef, UInt8.reduceToNat, Nat.reduceOr, Nat.reduceAnd, Nat.reduceXor, Nat.reduceDiv, if_pos, if_neg, aStore, frz, AV.flat, ↓reduceIte, ne_eq, reduceCtorEq, Int.reduceToNat, Nat.reduceEqDiff, Nat.reduceAdd, Nat.reduceSub, Nat.reduceMul, Int.reduceAdd, Int.reduceMul, Int.reduceSub, Int.reduceLT, Int.reduceLE, Int.reduceEq, Int.reduceNe, Nat.reduceLeDiff, Nat.reduceLT, Int.reduceNeg, Nat.reducePow, Nat.reduceMod, ByteArray.size, boo, entL, q3, q4]))
    rw [l1, Bool.true_and] at hZ
    by_cases l2 : e.link = e.path
    · have r2 : decide (e.link = e.path) = true := decide_eq_true l2
      rw [r2, Bool.not_true, if_neg (by decide)] at hZ
      subst hZ
      repeat (first | refine wA ?_ | refine wB ?_ | refine wC rfl ?_ | refine wD rfl ?_ | refine wE ?_ | refine wF (by omega) ?_ | ((first | refine wG ?_ | refine wH ?_ | refine wI ?_ | refine wJ ?_ | refine wK ?_ | refine wL ?_); simp (disch := omega) only [wP, wZ, undef, UInt8.reduceToNat, Nat.reduceOr, Nat.reduceAnd, Nat.reduceXor, Nat.reduceDiv, if_pos, if_neg, aStore, frz, AV.flat, ↓reduceIte, ne_eq, reduceCtorEq, Int.reduceToNat, Nat.reduceEqDiff, Nat.reduceAdd, Nat.reduceSub, Nat.reduceMul, Int.reduceAdd, Int.reduceMul, Int.reduceSub, Int.reduceLT, Int.reduceLE, Int.reduceEq, Int.reduceNe, Nat.reduceLeDiff, Nat.reduceLT, Int.reduceNeg, Nat.reducePow, Nat.reduceMod, ByteArray.size, boo, entL, q3, q4, r2]))
    have r2 : decide (e.link = e.path) = false := decide_eq_false l2
    rw [r2, Bool.not_false, if_pos rfl] at hZ
    have hr : (decide (3 ≤ e.kind) || decide (e.link = [])) = true := by rw [decide_eq_true (by omega : 3 ≤ e.kind), Bool.true_or]
    rw [argOk, hr, q1, Bool.true_and, Bool.false_or] at hZ
    by_cases m0 : e.data.length = 0
    · have v0 : decide ((0 : Int) < (e.data.length : Int)) = false := decide_eq_false (by omega)
      have v1 : decide ((1048576 : Int) < (e.data.length : Int)) = false := decide_eq_false (by omega)
      rw [decide_eq_true m0, if_pos rfl, if_pos (by omega)] at hZ
      subst hZ
      repeat (first | refine wA ?_ | refine wB ?_ | refine wC rfl ?_ | refine wD rfl ?_ | refine wE ?_ | refine wF (by omega) ?_ | ((first | refine wG ?_ | refine wH ?_ | refine wI ?_ | refine wJ ?_ | refine wK ?_ | refine wL ?_); simp (disch := omega) only [wP, wZ, undef, UInt8.reduceToNat, Nat.reduceOr, Nat.reduceAnd, Nat.reduceXor, Nat.reduceDiv, if_pos, if_neg, aStore, frz, AV.flat, ↓reduceIte, ne_eq, reduceCtorEq, Int.reduceToNat, Nat.reduceEqDiff, Nat.reduceAdd, Nat.reduceSub, Nat.reduceMul, Int.reduceAdd, Int.reduceMul, Int.reduceSub, Int.reduceLT, Int.reduceLE, Int.reduceEq, Int.reduceNe, Nat.reduceLeDiff, Nat.reduceLT, Int.reduceNeg, Nat.reducePow, Nat.reduceMod, ByteArray.size, boo, entL, q3, q4, ql, q1, r2, v0, v1, List.length_map]))
    · have v0 : decide ((0 : Int) < (e.data.length : Int)) = true := decide_eq_true (by omega)
      rw [decide_eq_false m0, if_neg (by decide)] at hZ
      subst hZ
      repeat (first | refine wA ?_ | refine wB ?_ | refine wC rfl ?_ | refine wD rfl ?_ | refine wE ?_ | refine wF (by omega) ?_ | ((first | refine wG ?_ | refine wH ?_ | refine wI ?_ | refine wJ ?_ | refine wK ?_ | refine wL ?_); simp (disch := omega) only [wP, wZ, undef, UInt8.reduceToNat, Nat.reduceOr, Nat.reduceAnd, Nat.reduceXor, Nat.reduceDiv, if_pos, if_neg, aStore, frz, AV.flat, ↓reduceIte, ne_eq, reduceCtorEq, Int.reduceToNat, Nat.reduceEqDiff, Nat.reduceAdd, Nat.reduceSub, Nat.reduceMul, Int.reduceAdd, Int.reduceMul, Int.reduceSub, Int.reduceLT, Int.reduceLE, Int.reduceEq, Int.reduceNe, Nat.reduceLeDiff, Nat.reduceLT, Int.reduceNeg, Nat.reducePow, Nat.reduceMod, ByteArray.size, boo, entL, q3, q4, ql, q1, r2, v0, List.length_map]))
  have q4 : decide (e.kind = 4) = false := decide_eq_false k4
  have ql : decide (e.kind < 3) = true := decide_eq_true (by omega)
  rw [linkOk, if_neg k3, if_neg k4, if_pos rfl] at hZ
  by_cases l0 : e.link = []
  case neg =>
    have r0 : decide (e.link = []) = false := decide_eq_false l0
    have hn : argOk e = false := by rw [argOk, r0, decide_eq_false (by omega : ¬ 3 ≤ e.kind)]; rfl
    rw [hn, if_neg (by decide)] at hZ
    subst hZ
    repeat (first | refine wA ?_ | refine wB ?_ | refine wC rfl ?_ | refine wD rfl ?_ | refine wE ?_ | refine wF (by omega) ?_ | ((first | refine wG ?_ | refine wH ?_ | refine wI ?_ | refine wJ ?_ | refine wK ?_ | refine wL ?_); simp (disch := omega) only [wP, wZ, undef, UInt8.reduceToNat, Nat.reduceOr, Nat.reduceAnd, Nat.reduceXor, Nat.reduceDiv, if_pos, if_neg, aStore, frz, AV.flat, ↓reduceIte, ne_eq, reduceCtorEq, Int.reduceToNat, Nat.reduceEqDiff, Nat.reduceAdd, Nat.reduceSub, Nat.reduceMul, Int.reduceAdd, Int.reduceMul, Int.reduceSub, Int.reduceLT, Int.reduceLE, Int.reduceEq, Int.reduceNe, Nat.reduceLeDiff, Nat.reduceLT, Int.reduceNeg, Nat.reducePow, Nat.reduceMod, ByteArray.size, boo, entL, q3, q4, ql, r0]))
    done
  have r0 : decide (e.link = []) = true := decide_eq_true l0
  by_cases k1 : e.kind = 1
  · have q1 : decide (e.kind = 1) = true := decide_eq_true k1
    have hn : argOk e = true := by rw [argOk, r0, q1]; simp
    rw [if_pos hn] at hZ
    by_cases m1 : e.data.length ≤ 1048576
    · have v1 : decide ((1048576 : Int) < (e.data.length : Int)) = false := decide_eq_false (by omega)
      rw [if_pos m1] at hZ
      subst hZ
      repeat (first | refine wA ?_ | refine wB ?_ | refine wC rfl ?_ | refine wD rfl ?_ | refine wE ?_ | refine wF (by omega) ?_ | ((first | refine wG ?_ | refine wH ?_ | refine wI ?_ | refine wJ ?_ | refine wK ?_ | refine wL ?_); simp (disch := omega) only [wP, wZ, undef, UInt8.reduceToNat, Nat.reduceOr, Nat.reduceAnd, Nat.reduceXor, Nat.reduceDiv, if_pos, if_neg, aStore, frz, AV.flat, ↓reduceIte, ne_eq, reduceCtorEq, Int.reduceToNat, Nat.reduceEqDiff, Nat.reduceAdd, Nat.reduceSub, Nat.reduceMul, Int.reduceAdd, Int.reduceMul, Int.reduceSub, Int.reduceLT, Int.reduceLE, Int.reduceEq, Int.reduceNe, Nat.reduceLeDiff, Nat.reduceLT, Int.reduceNeg, Nat.reducePow, Nat.reduceMod, ByteArray.size, boo, entL, q3, q4, ql, r0, q1, v1, List.length_map]))
    · have v1 : decide ((1048576 : Int) < (e.data.length : Int)) = true := decide_eq_true (by omega)
      rw [if_neg m1] at hZ
      subst hZ
      repeat (first | refine wA ?_ | refine wB ?_ | refine wC rfl ?_ | refine wD rfl ?_ | refine wE ?_ | refine wF (by omega) ?_ | ((first | refine wG ?_ | refine wH ?_ | refine wI ?_ | refine wJ ?_ | refine wK ?_ | refine wL ?_); simp (disch := omega) only [wP, wZ, undef, UInt8.reduceToNat, Nat.reduceOr, Nat.reduceAnd, Nat.reduceXor, Nat.reduceDiv, if_pos, if_neg, aStore, frz, AV.flat, ↓reduceIte, ne_eq, reduceCtorEq, Int.reduceToNat, Nat.reduceEqDiff, Nat.reduceAdd, Nat.reduceSub, Nat.reduceMul, Int.reduceAdd, Int.reduceMul, Int.reduceSub, Int.reduceLT, Int.reduceLE, Int.reduceEq, Int.reduceNe, Nat.reduceLeDiff, Nat.reduceLT, Int.reduceNeg, Nat.reducePow, Nat.reduceMod, ByteArray.size, boo, entL, q3, q4, ql, r0, q1, v1, List.length_map]))
  have q1 : decide (e.kind = 1) = false := decide_eq_false k1
  have hr : (decide (3 ≤ e.kind) || decide (e.link = [])) = true := by rw [r0, Bool.or_true]
  rw [argOk, hr, q1, Bool.true_and, Bool.false_or] at hZ
  by_cases m0 : e.data.length = 0
  · have v0 : decide ((0 : Int) < (e.data.length : Int)) = false := decide_eq_false (by omega)
    have v1 : decide ((1048576 : Int) < (e.data.length : Int)) = false := decide_eq_false (by omega)
    rw [decide_eq_true m0, if_pos rfl, if_pos (by omega)] at hZ
    subst hZ
    repeat (first | refine wA ?_ | refine wB ?_ | refine wC rfl ?_ | refine wD rfl ?_ | refine wE ?_ | refine wF (by omega) ?_ | ((first | refine wG ?_ | refine wH ?_ | refine wI ?_ | refine wJ ?_ | refine wK ?_ | refine wL ?_); simp (disch := omega) only [wP, wZ, undef, UInt8.reduceToNat, Nat.reduceOr, Nat.reduceAnd, Nat.reduceXor, Nat.reduceDiv, if_pos, if_neg, aStore, frz, AV.flat, ↓reduceIte, ne_eq, reduceCtorEq, Int.reduceToNat, Nat.reduceEqDiff, Nat.reduceAdd, Nat.reduceSub, Nat.reduceMul, Int.reduceAdd, Int.reduceMul, Int.reduceSub, Int.reduceLT, Int.reduceLE, Int.reduceEq, Int.reduceNe, Nat.reduceLeDiff, Nat.reduceLT, Int.reduceNeg, Nat.reducePow, Nat.reduceMod, ByteArray.size, boo, entL, q3, q4, ql, q1, r0, v0, v1, List.length_map]))
  · have v0 : decide ((0 : Int) < (e.data.length : Int)) = true := decide_eq_true (by omega)
    rw [decide_eq_false m0, if_neg (by decide)] at hZ
    subst hZ
    repeat (first | refine wA ?_ | refine wB ?_ | refine wC rfl ?_ | refine wD rfl ?_ | refine wE ?_ | refine wF (by omega) ?_ | ((first | refine wG ?_ | refine wH ?_ | refine wI ?_ | refine wJ ?_ | refine wK ?_ | refine wL ?_); simp (disch := omega) only [wP, wZ, undef, UInt8.reduceToNat, Nat.reduceOr, Nat.reduceAnd, Nat.reduceXor, Nat.reduceDiv, if_pos, if_neg, aStore, frz, AV.flat, ↓reduceIte, ne_eq, reduceCtorEq, Int.reduceToNat, Nat.reduceEqDiff, Nat.reduceAdd, Nat.reduceSub, Nat.reduceMul, Int.reduceAdd, Int.reduceMul, Int.reduceSub, Int.reduceLT, Int.reduceLE, Int.reduceEq, Int.reduceNe, Nat.reduceLeDiff, Nat.reduceLT, Int.reduceNeg, Nat.reducePow, Nat.reduceMod, ByteArray.size, boo, entL, q3, q4, ql, q1, r0, v0, List.length_map]))
end Go.Proofs.YtbmmdkbinlnogaaDoor.Aw
namespace Go.Proofs.YtbmmdkbinlnogaaDoor.Aw
open Go
set_option linter.unusedSimpArgs false
set_option linter.unusedVariables false
def abv (a b : List UInt8) : Bool := decide (a.length < b.length) && (decide (b.take a.length = a) && decide (b.getD a.length 0 = 47))
set_option maxHeartbeats 1000000 in
set_option maxRecDepth 100000 in
theorem ref_above_c [Tabs Tryd.prog] (a b : List UInt8) (ha : a.length ≤ 1000000) (hb : b.length ≤ 1000000) : Con Tryd.prog n_drayageref07_above [str a, str b] (boo (abv a b)) := by
  refine Con.of' mix Tryd.func53 rfl Tryd.ntmps53 e_drayageref07_above r_drayageref07_above (by simp) rfl rfl ?_
  unfold s_drayageref07_above
  obtain ⟨Z, hZ⟩ : ∃ Z, Z = abv a b := ⟨_, rfl⟩
  rw [← hZ]
  rw [abv] at hZ
  by_cases h1 : a.length < b.length
  case neg =>
    have d1 : decide ((a.length : Int) < (b.length : Int)) = false := decide_eq_false (by omega)
    rw [decide_eq_false h1, Bool.false_and] at hZ
    subst hZ
    repeat (first | refine wA ?_ | refine wB ?_ | refine wC rfl ?_ | refine wD rfl ?_ | refine wE ?_ | refine wF (by omega) ?_ | ((first | refine wG ?_ | refine wH ?_ | refine wI ?_ | refine wJ ?_ | refine wK ?_ | refine wL ?_); simp (disch := omega) only [wP, wZ, undef, UInt8.reduceToNat, Nat.reduceOr, Nat.reduceAnd, Nat.reduceXor, Nat.reduceDiv, if_pos, if_neg, aStore, frz, AV.flat, ↓reduceIte, ne_eq, reduceCtorEq, Int.reduceToNat, Nat.reduceEqDiff, Nat.reduceAdd, Nat.reduceSub, Nat.reduceMul, Int.reduceAdd, Int.reduceMul, Int.reduceSub, Int.reduceLT, Int.reduceLE, Int.reduceEq, Int.reduceNe, Nat.reduceLeDiff, Nat.reduceLT, Int.reduceNeg, Nat.reducePow, Nat.reduceMod, ByteArray.size, boo, d1]))
  have d1 : decide ((a.length : Int) < (b.length : Int)) = true := decide_eq_true (by omega)
  rw [decide_eq_true h1, Bool.true_and] at hZ
  by_cases h2 : b.take a.length = a
  case neg =>
    have d2 : decide (b.take a.length = a) = false := decide_eq_false h2
    rw [d2, Bool.false_and] at hZ
    subst hZ
    repeat (first | refine wA ?_ | refine wB ?_ | refine wC rfl ?_ | refine wD rfl ?_ | refine wE ?_ | refine wF (by omega) ?_ | ((first | refine wG ?_ | refine wH ?_ | refine wI ?_ | refine wJ ?_ | refine wK ?_ | refine wL ?_); simp (disch := omega) only [wP, wZ, undef, UInt8.reduceToNat, Nat.reduceOr, Nat.reduceAnd, Nat.reduceXor, Nat.reduceDiv, if_pos, if_neg, aStore, frz, AV.flat, ↓reduceIte, ne_eq, reduceCtorEq, Int.reduceToNat, Nat.reduceEqDiff, Nat.reduceAdd, Nat.reduceSub, Nat.reduceMul, Int.reduceAdd, Int.reduceMul, Int.reduceSub, Int.reduceLT, Int.reduceLE, Int.reduceEq, Int.reduceNe, Nat.reduceLeDiff, Nat.reduceLT, Int.reduceNeg, Nat.reducePow, Nat.reduceMod, ByteArray.size, boo, d1, d2]))
  have d2 : decide (b.take a.length = a) = true := decide_eq_true h2
  rw [d2, Bool.true_and] at hZ
  by_cases h3 : b.getD a.length 0 = 47
  · have d3 : decide (((b.getD a.length 0).toNat : Int) = 47) = true := by rw [h3]; rfl
    rw [decide_eq_true h3] at hZ
    subst hZ
    repeat (first | refine wA ?_ | refine wB ?_ | refine wC rfl ?_ | refine wD rfl ?_ | refine wE ?_ | refine wF (by omega) ?_ | ((first | refine wG ?_ | refine wH ?_ | refine wI ?_ | refine wJ ?_ | refine wK ?_ | refine wL ?_); simp (disch := omega) only [wP, wZ, undef, UInt8.reduceToNat, Nat.reduceOr, Nat.reduceAnd, Nat.reduceXor, Nat.reduceDiv, if_pos, if_neg, aStore, frz, AV.flat, ↓reduceIte, ne_eq, reduceCtorEq, Int.reduceToNat, Nat.reduceEqDiff, Nat.reduceAdd, Nat.reduceSub, Nat.reduceMul, Int.reduceAdd, Int.reduceMul, Int.reduceSub, Int.reduceLT, Int.reduceLE, Int.reduceEq, Int.reduceNe, Nat.reduceLeDiff, Nat.reduceLT, Int.reduceNeg, Nat.reducePow, Nat.reduceMod, ByteArray.size, boo, d1, d2, d3]))
  · have d3 : decide (((b.getD a.length 0).toNat : Int) = 47) = false := decide_eq_false (fun h => h3 (UInt8.toNat_inj.1 (by rw [show (47 : UInt8).toNat = 47 from rfl]; omega)))
    rw [decide_eq_false h3] at hZ
    subst hZ
    repeat (first | refine wA ?_ | refine wB ?_ | refine wC rfl ?_ | refine wD rfl ?_ | refine wE ?_ | refine wF (by omega) ?_ | ((first | refine wG ?_ | refine wH ?_ | refine wI ?_ | refine wJ ?_ | refine wK ?_ | refine wL ?_); simp (disch := omega) only [wP, wZ, undef, UInt8.reduceToNat, Nat.reduceOr, Nat.reduceAnd, Nat.reduceXor, Nat.reduceDiv, if_pos, if_neg, aStore, frz, AV.flat, ↓reduceIte, ne_eq, reduceCtorEq, Int.reduceToNat, Nat.reduceEqDiff, Nat.reduceAdd, Nat.reduceSub, Nat.reduceMul, Int.reduceAdd, Int.reduceMul, Int.reduceSub, Int.reduceLT, Int.reduceLE, Int.reduceEq, Int.reduceNe, Nat.reduceLeDiff, Nat.reduceLT, Int.reduceNeg, Nat.reducePow, Nat.reduceMod, ByteArray.size, boo, d1, d2, d3]))
def posOf (p : List UInt8) : List Ent → Int
  | [] => -1
  | e :: l => if e.path = p then 0 else if posOf p l < 0 then -1 else posOf p l + 1
theorem posOf_none {p : List UInt8} : ∀ {l : List Ent}, (∀ e ∈ l, e.path ≠ p) → posOf p l = -1
  | [], _ => rfl
  | e :: l, h => by
    rw [posOf, if_neg (h e (by simp)), posOf_none (fun x hx => h x (by simp [hx])), if_pos (by decide)]
theorem posOf_some {p : List UInt8} : ∀ {l : List Ent} {k : Nat} (hk : k < l.length), l[k].path = p → (∀ j (hj : j < k), l[j].path ≠ p) → posOf p l = k
  | e :: l, 0, _, h, _ => by rw [posOf, if_pos (show e.path = p from h)]; rfl
  | e :: l, k + 1, hk, h, hn => by
    have ih := posOf_some (p := p) (l := l) (k := k) (by simpa using hk) (by simpa using h) (fun j hj => by simpa using hn (j + 1) (by omega))
    rw [posOf, if_neg (by simpa using hn 0 (by omega)), ih, if_neg (by omega)]
    omega
set_option maxHeartbeats 1000000 in
set_option maxRecDepth 100000 in
theorem ref_Find_c [Tabs Tryd.prog] (nl : Bool) (l : List Ent) (hl : l.length ≤ 1000000) (p : List UInt8) (hp : p.length ≤ 1000000) : Con Tryd.prog n_drayageref07_Find [.sl nl (some 10) (l.map entV), str p] (int (posOf p l)) := by
  refine Con.of' mix Tryd.func22 rfl Tryd.ntmps22 e_drayageref07_Find r_drayageref07_Find (by simp) (by simp only [AV.free, AV.free.freeL, free_ents, str, Bool.and_self]) rfl ?_
  unfold s_drayageref07_Find
  obtain ⟨Z, hZ⟩ : ∃ Z, Z = posOf p l := ⟨_, rfl⟩
  rw [← hZ]
  repeat (first | refine wA ?_ | refine wB ?_ | refine wC rfl ?_ | refine wD rfl ?_ | refine wE ?_ | refine wF (by omega) ?_ | ((first | refine wG ?_ | refine wH ?_ | refine wI ?_ | refine wJ ?_ | refine wK ?_ | refine wL ?_); simp (disch := omega) only [wP, wZ, undef, UInt8.reduceToNat, Nat.reduceOr, Nat.reduceAnd, Nat.reduceXor, Nat.reduceDiv, if_pos, if_neg, aStore, frz, AV.flat, ↓reduceIte, ne_eq, reduceCtorEq, Int.reduceToNat, Nat.reduceEqDiff, Nat.reduceAdd, Nat.reduceSub, Nat.reduceMul, Int.reduceAdd, Int.reduceMul, Int.reduceSub, Int.reduceLT, Int.reduceLE, Int.reduceEq, Int.reduceNe, Nat.reduceLeDiff, Nat.reduceLT, Int.reduceNeg, Nat.reducePow, Nat.reduceMod, ByteArray.size]))
  refine SWp.loop (α := Nat) (fun k => mk 20 0 [(0, .sl nl (some 10) (l.map entV)), (1, str p), (5, int k)] [])
    (fun k => k ≤ l.length ∧ ∀ j (hj : j < l.length), j < k → l[j].path ≠ p) (fun k => l.length - k) 0 ⟨Nat.zero_le _, fun j hj h => by omega⟩ (le_mk rfl (Nat.le_refl _) ?_ ?_) ?_
  iterate 2 (case _ => simp (disch := omega) only [wP, wZ, undef, UInt8.reduceToNat, Nat.reduceOr, Nat.reduceAnd, Nat.reduceXor, Nat.reduceDiv, if_pos, if_neg, aStore, frz, AV.flat, ↓reduceIte, ne_eq, reduceCtorEq, Int.reduceToNat, Nat.reduceEqDiff, Nat.reduceAdd, Nat.reduceSub, Nat.reduceMul, Int.reduceAdd, Int.reduceMul, Int.reduceSub, Int.reduceLT, Int.reduceLE, Int.reduceEq, Int.reduceNe, Nat.reduceLeDiff, Nat.reduceLT, Int.reduceNeg, Nat.reducePow, Nat.reduceMod, ByteArray.size])
  rintro k ⟨hk, hne⟩ -
  by_cases hk' : k < l.length
  case neg =>
    have d : decide ((k : Int) < (l.length : Int)) = false := decide_eq_false (by omega)
    have hz : Z = -1 := by
      rw [hZ, posOf_none]
      intro e he
      obtain ⟨j, hj, rfl⟩ := List.mem_iff_getElem.1 he
      exact hne j hj (by omega)
    subst hz
    repeat (first | refine wA ?_ | refine wB ?_ | refine wC rfl ?_ | refine wD rfl ?_ | refine wE ?_ | refine wF (by omega) ?_ | ((first | refine wG ?_ | refine wH ?_ | refine wI ?_ | refine wJ ?_ | refine wK ?_ | refine wL ?_); simp (disch := omega) only [wP, wZ, undef, UInt8.reduceToNat, Nat.reduceOr, Nat.reduceAnd, Nat.reduceXor, Nat.reduceDiv, if_pos, if_neg, aStore, frz, AV.flat, ↓reduceIte, ne_eq, reduceCtorEq, Int.reduceToNat, Nat.reduceEqDiff, Nat.reduceAdd, Nat.reduceSub, Nat.reduceMul, Int.reduceAdd, Int.reduceMul, Int.reduceSub, Int.reduceLT, Int.reduceLE, Int.reduceEq, Int.reduceNe, Nat.reduceLeDiff, Nat.reduceLT, Int.reduceNeg, Nat.reducePow, Nat.reduceMod, ByteArray.size, d, List.length_map]))
  have d : decide ((k : Int) < (l.length : Int)) = true := decide_eq_true (by omega)
  have hg := getD_ents hk'
  by_cases h1 : l[k].path = p
  · have d1 : decide (l[k].path = p) = true := decide_eq_true h1
    have hz : Z = k := by rw [hZ, posOf_some hk' h1 (fun j hj => hne j (by omega) hj)]
    subst hz
    repeat (first | refine wA ?_ | refine wB ?_ | refine wC rfl ?_ | refine wD rfl ?_ | refine wE ?_ | refine wF (by omega) ?_ | ((first | refine wG ?_ | refine wH ?_ | refine wI ?_ | refine wJ ?_ | refine wK ?_ | refine wL ?_); simp (disch := omega) only [wP, wZ, undef, UInt8.reduceToNat, Nat.reduceOr, Nat.reduceAnd, Nat.reduceXor, Nat.reduceDiv, if_pos, if_neg, aStore, frz, AV.flat, ↓reduceIte, ne_eq, reduceCtorEq, Int.reduceToNat, Nat.reduceEqDiff, Nat.reduceAdd, Nat.reduceSub, Nat.reduceMul, Int.reduceAdd, Int.reduceMul, Int.reduceSub, Int.reduceLT, Int.reduceLE, Int.reduceEq, Int.reduceNe, Nat.reduceLeDiff, Nat.reduceLT, Int.reduceNeg, Nat.reducePow, Nat.reduceMod, ByteArray.size, d, d1, List.length_map, hg, entV, entL]))
    done
  · have d1 : decide (l[k].path = p) = false := decide_eq_false h1
    repeat (first | refine wA ?_ | refine wB ?_ | refine wC rfl ?_ | refine wD rfl ?_ | refine wE ?_ | refine wF (by omega) ?_ | ((first | refine wG ?_ | refine wH ?_ | refine wI ?_ | refine wJ ?_ | refine wK ?_ | refine wL ?_); simp (disch := omega) only [wP, wZ, undef, UInt8.reduceToNat, Nat.reduceOr, Nat.reduceAnd, Nat.reduceXor, Nat.reduceDiv, if_pos, if_neg, aStore, frz, AV.flat, ↓reduceIte, ne_eq, reduceCtorEq, Int.reduceToNat, Nat.reduceEqDiff, Nat.reduceAdd, Nat.reduceSub, Nat.reduceMul, Int.reduceAdd, Int.reduceMul, Int.reduceSub, Int.reduceLT, Int.reduceLE, Int.reduceEq, Int.reduceNe, Nat.reduceLeDiff, Nat.reduceLT, Int.reduceNeg, Nat.reducePow, Nat.reduceMod, ByteArray.size, d, d1, List.length_map, hg, entV, entL]))
    refine At.of (k + 1) ⟨by omega, fun j hj h => ?_⟩ (by omega) rfl rfl (Nat.le_refl _) ?_ ?_
    · by_cases e5 : j = k
      · subst e5; exact h1
      · exact hne j hj (by omega)
    iterate 2 (case _ => simp (disch := omega) only [wP, wZ, undef, UInt8.reduceToNat, Nat.reduceOr, Nat.reduceAnd, Nat.reduceXor, Nat.reduceDiv, if_pos, if_neg, aStore, frz, AV.flat, ↓reduceIte, ne_eq, reduceCtorEq, Int.reduceToNat, Nat.reduceEqDiff, Nat.reduceAdd, Nat.reduceSub, Nat.reduceMul, Int.reduceAdd, Int.reduceMul, Int.reduceSub, Int.reduceLT, Int.reduceLE, Int.reduceEq, Int.reduceNe, Nat.reduceLeDiff, Nat.reduceLT, Int.reduceNeg, Nat.reducePow, Nat.reduceMod, ByteArray.size])
end Go.Proofs.YtbmmdkbinlnogaaDoor.Aw
namespace Go.Proofs.YtbmmdkbinlnogaaDoor.Aw
open Go
set_option linter.unusedSimpArgs false
set_option linter.unusedVariables false
theorem posOf_ge {p : List UInt8} : ∀ {l : List Ent}, -1 ≤ posOf p l
  | [] => by simp [posOf]
  | e :: l => by
    have := posOf_ge (p := p) (l := l)
    rw [posOf]
    split
    · omega
    · split <;> omega
theorem posOf_lt {p : List UInt8} : ∀ {l : List Ent}, posOf p l < l.length
  | [] => by simp [posOf]
  | e :: l => by
    have := posOf_lt (p := p) (l := l)
    rw [posOf, List.length_cons]
    split
    · omega
    · split <;> omega
def fileAt (p : List UInt8) (l : List Ent) : Option Ent := if posOf p l < 0 then none else l[(posOf p l).toNat]?
def fitsB (e x : Ent) : Bool := !((abv x.path e.path && !decide (x.kind = 2)) || (abv e.path x.path && !decide (e.kind = 2)))
def clash (l : List Ent) (e : Ent) : Int := if l.all (fitsB e) = true then 0 else 9
def badE (l : List Ent) (e : Ent) : Int := if chk e = 0 then if posOf e.path l < 0 then if e.kind = 4 then (match fileAt e.link l with | none => 15 | some f => if f.kind = 1 then if alikeB f e = true then clash l e else 1 else 15) else clash l e else 8 else chk e
set_option maxHeartbeats 4000000 in
set_option maxRecDepth 100000 in
theorem ref_bad_c [Tabs Tryd.prog] (nl : Bool) (l : List Ent) (hl : l.length ≤ 1000000) (hs : ∀ e ∈ l, entS e) (i : Nat) (hi : i < l.length) : Con Tryd.prog n_drayageref07_bad [.sl nl (some 10) (l.map entV), int i] (int (badE (l.take i) l[i])) := by
  refine Con.of' mix Tryd.func32 rfl Tryd.ntmps32 e_drayageref07_bad r_drayageref07_bad (by simp) (by simp only [AV.free, AV.free.freeL, free_ents, int, Bool.and_self]) rfl ?_
  unfold s_drayageref07_bad
  obtain ⟨e, he⟩ : ∃ e, e = l[i] := ⟨_, rfl⟩
  obtain ⟨Z, hZ⟩ : ∃ Z, Z = badE (l.take i) l[i] := ⟨_, rfl⟩
  rw [← hZ]
  rw [← he, badE] at hZ
  have hg := getD_ents hi
  rw [← he] at hg
  have hse := hs e (by rw [he]; exact List.getElem_mem hi)
  obtain ⟨s1, s2, s3, s4, s5⟩ := hse
  have hpg := posOf_ge (p := e.path) (l := l.take i)
  have hlt : (l.take i).length = i := by rw [List.length_take]; omega
  repeat (first | refine wA ?_ | refine wB ?_ | refine wC rfl ?_ | refine wD rfl ?_ | refine wE ?_ | refine wF (by omega) ?_ | ((first | refine wG ?_ | refine wH ?_ | refine wI ?_ | refine wJ ?_ | refine wK ?_ | refine wL ?_); simp (disch := omega) only [wP, wZ, undef, UInt8.reduceToNat, Nat.reduceOr, Nat.reduceAnd, Nat.reduceXor, Nat.reduceDiv, if_pos, if_neg, aStore, frz, AV.flat, ↓reduceIte, ne_eq, reduceCtorEq, Int.reduceToNat, Nat.reduceEqDiff, Nat.reduceAdd, Nat.reduceSub, Nat.reduceMul, Int.reduceAdd, Int.reduceMul, Int.reduceSub, Int.reduceLT, Int.reduceLE, Int.reduceEq, Int.reduceNe, Nat.reduceLeDiff, Nat.reduceLT, Int.reduceNeg, Nat.reducePow, Nat.reduceMod, ByteArray.size, List.length_map, hg, entV, entL]))
  refine goC_p _ (.inl ⟨free_entV, ref_Check_c e ⟨s1, s2, s3, s4, s5⟩⟩) ?_
  by_cases h0 : chk e = 0
  case neg =>
    have d0 : decide (chk e = 0) = false := decide_eq_false h0
    rw [if_neg h0] at hZ
    subst hZ
    repeat (first | refine wA ?_ | refine wB ?_ | refine wC rfl ?_ | refine wD rfl ?_ | refine wE ?_ | refine wF (by omega) ?_ | ((first | refine wG ?_ | refine wH ?_ | refine wI ?_ | refine wJ ?_ | refine wK ?_ | refine wL ?_); simp (disch := omega) only [wP, wZ, undef, UInt8.reduceToNat, Nat.reduceOr, Nat.reduceAnd, Nat.reduceXor, Nat.reduceDiv, if_pos, if_neg, aStore, frz, AV.flat, ↓reduceIte, ne_eq, reduceCtorEq, Int.reduceToNat, Nat.reduceEqDiff, Nat.reduceAdd, Nat.reduceSub, Nat.reduceMul, Int.reduceAdd, Int.reduceMul, Int.reduceSub, Int.reduceLT, Int.reduceLE, Int.reduceEq, Int.reduceNe, Nat.reduceLeDiff, Nat.reduceLT, Int.reduceNeg, Nat.reducePow, Nat.reduceMod, ByteArray.size, d0]))
  have d0 : decide (chk e = 0) = true := decide_eq_true h0
  rw [if_pos h0] at hZ
  repeat (first | refine wA ?_ | refine wB ?_ | refine wC rfl ?_ | refine wD rfl ?_ | refine wE ?_ | refine wF (by omega) ?_ | ((first | refine wG ?_ | refine wH ?_ | refine wI ?_ | refine wJ ?_ | refine wK ?_ | refine wL ?_); simp (disch := omega) only [wP, wZ, undef, UInt8.reduceToNat, Nat.reduceOr, Nat.reduceAnd, Nat.reduceXor, Nat.reduceDiv, if_pos, if_neg, aStore, frz, AV.flat, ↓reduceIte, ne_eq, reduceCtorEq, Int.reduceToNat, Nat.reduceEqDiff, Nat.reduceAdd, Nat.reduceSub, Nat.reduceMul, Int.reduceAdd, Int.reduceMul, Int.reduceSub, Int.reduceLT, Int.reduceLE, Int.reduceEq, Int.reduceNe, Nat.reduceLeDiff, Nat.reduceLT, Int.reduceNeg, Nat.reducePow, Nat.reduceMod, ByteArray.size, d0, ← List.map_take]))
  refine goC_p _ (.inl ⟨by simp only [AV.free, AV.free.freeL, free_ents, str, Bool.and_self], ref_Find_c nl (l.take i) (by omega) e.path s1⟩) ?_
  by_cases h1 : posOf e.path (l.take i) < 0
  case neg =>
    have d1 : decide (0 ≤ posOf e.path (l.take i)) = true := decide_eq_true (by omega)
    rw [if_neg h1] at hZ
    subst hZ
    repeat (first | refine wA ?_ | refine wB ?_ | refine wC rfl ?_ | refine wD rfl ?_ | refine wE ?_ | refine wF (by omega) ?_ | ((first | refine wG ?_ | refine wH ?_ | refine wI ?_ | refine wJ ?_ | refine wK ?_ | refine wL ?_); simp (disch := omega) only [wP, wZ, undef, UInt8.reduceToNat, Nat.reduceOr, Nat.reduceAnd, Nat.reduceXor, Nat.reduceDiv, if_pos, if_neg, aStore, frz, AV.flat, ↓reduceIte, ne_eq, reduceCtorEq, Int.reduceToNat, Nat.reduceEqDiff, Nat.reduceAdd, Nat.reduceSub, Nat.reduceMul, Int.reduceAdd, Int.reduceMul, Int.reduceSub, Int.reduceLT, Int.reduceLE, Int.reduceEq, Int.reduceNe, Nat.reduceLeDiff, Nat.reduceLT, Int.reduceNeg, Nat.reducePow, Nat.reduceMod, ByteArray.size, d1]))
  have d1 : decide (0 ≤ posOf e.path (l.take i)) = false := decide_eq_false (by omega)
  rw [if_pos h1] at hZ
  by_cases h4 : e.kind = 4
  case' pos =>
    have d4 : decide (e.kind = 4) = true := decide_eq_true h4
    rw [if_pos h4] at hZ
    repeat (first | refine wA ?_ | refine wB ?_ | refine wC rfl ?_ | refine wD rfl ?_ | refine wE ?_ | refine wF (by omega) ?_ | ((first | refine wG ?_ | refine wH ?_ | refine wI ?_ | refine wJ ?_ | refine wK ?_ | refine wL ?_); simp (disch := omega) only [wP, wZ, undef, UInt8.reduceToNat, Nat.reduceOr, Nat.reduceAnd, Nat.reduceXor, Nat.reduceDiv, if_pos, if_neg, aStore, frz, AV.flat, ↓reduceIte, ne_eq, reduceCtorEq, Int.reduceToNat, Nat.reduceEqDiff, Nat.reduceAdd, Nat.reduceSub, Nat.reduceMul, Int.reduceAdd, Int.reduceMul, Int.reduceSub, Int.reduceLT, Int.reduceLE, Int.reduceEq, Int.reduceNe, Nat.reduceLeDiff, Nat.reduceLT, Int.reduceNeg, Nat.reducePow, Nat.reduceMod, ByteArray.size, d1, d4, ← List.map_take]))
    refine goC_p _ (.inl ⟨by simp only [AV.free, AV.free.freeL, free_ents, str, Bool.and_self], ref_Find_c nl (l.take i) (by omega) e.link s4⟩) ?_
    have hkg := posOf_ge (p := e.link) (l := l.take i)
    have hkl := posOf_lt (p := e.link) (l := l.take i)
    by_cases h5 : posOf e.link (l.take i) < 0
    · have d5 : decide (posOf e.link (l.take i) < 0) = true := decide_eq_true h5
      rw [fileAt, if_pos h5] at hZ
      simp only at hZ
      subst hZ
      repeat (first | refine wA ?_ | refine wB ?_ | refine wC rfl ?_ | refine wD rfl ?_ | refine wE ?_ | refine wF (by omega) ?_ | ((first | refine wG ?_ | refine wH ?_ | refine wI ?_ | refine wJ ?_ | refine wK ?_ | refine wL ?_); simp (disch := omega) only [wP, wZ, undef, UInt8.reduceToNat, Nat.reduceOr, Nat.reduceAnd, Nat.reduceXor, Nat.reduceDiv, if_pos, if_neg, aStore, frz, AV.flat, ↓reduceIte, ne_eq, reduceCtorEq, Int.reduceToNat, Nat.reduceEqDiff, Nat.reduceAdd, Nat.reduceSub, Nat.reduceMul, Int.reduceAdd, Int.reduceMul, Int.reduceSub, Int.reduceLT, Int.reduceLE, Int.reduceEq, Int.reduceNe, Nat.reduceLeDiff, Nat.reduceLT, Int.reduceNeg, Nat.reducePow, Nat.reduceMod, ByteArray.size, d4, d5]))
    have d5 : decide (posOf e.link (l.take i) < 0) = false := decide_eq_false h5
    obtain ⟨k, hk⟩ : ∃ k : Nat, posOf e.link (l.take i) = k := ⟨(posOf e.link (l.take i)).toNat, by omega⟩
    have hki : k < i := by omega
    have hkl2 : k < l.length := by omega
    obtain ⟨f, hf⟩ : ∃ f, f = l[k] := ⟨_, rfl⟩
    have hgk := getD_ents hkl2
    rw [← hf] at hgk
    have hfa : (l.take i)[k]? = some f := by rw [List.getElem?_take, if_pos hki, List.getElem?_eq_getElem hkl2, hf]
    rw [fileAt, if_neg h5, hk, Int.toNat_natCast, hfa] at hZ
    rw [hk] at d5 ⊢
    simp only at hZ
    by_cases h6 : f.kind = 1
    case neg =>
      have d6 : decide (f.kind = 1) = false := decide_eq_false h6
      rw [if_neg h6] at hZ
      subst hZ
      repeat (first | refine wA ?_ | refine wB ?_ | refine wC rfl ?_ | refine wD rfl ?_ | refine wE ?_ | refine wF (by omega) ?_ | ((first | refine wG ?_ | refine wH ?_ | refine wI ?_ | refine wJ ?_ | refine wK ?_ | refine wL ?_); simp (disch := omega) only [wP, wZ, undef, UInt8.reduceToNat, Nat.reduceOr, Nat.reduceAnd, Nat.reduceXor, Nat.reduceDiv, if_pos, if_neg, aStore, frz, AV.flat, ↓reduceIte, ne_eq, reduceCtorEq, Int.reduceToNat, Nat.reduceEqDiff, Nat.reduceAdd, Nat.reduceSub, Nat.reduceMul, Int.reduceAdd, Int.reduceMul, Int.reduceSub, Int.reduceLT, Int.reduceLE, Int.reduceEq, Int.reduceNe, Nat.reduceLeDiff, Nat.reduceLT, Int.reduceNeg, Nat.reducePow, Nat.reduceMod, ByteArray.size, d4, d5, List.length_map, hgk, entV, entL, d6]))
    have d6 : decide (f.kind = 1) = true := decide_eq_true h6
    rw [if_pos h6] at hZ
    repeat (first | refine wA ?_ | refine wB ?_ | refine wC rfl ?_ | refine wD rfl ?_ | refine wE ?_ | refine wF (by omega) ?_ | ((first | refine wG ?_ | refine wH ?_ | refine wI ?_ | refine wJ ?_ | refine wK ?_ | refine wL ?_); simp (disch := omega) only [wP, wZ, undef, UInt8.reduceToNat, Nat.reduceOr, Nat.reduceAnd, Nat.reduceXor, Nat.reduceDiv, if_pos, if_neg, aStore, frz, AV.flat, ↓reduceIte, ne_eq, reduceCtorEq, Int.reduceToNat, Nat.reduceEqDiff, Nat.reduceAdd, Nat.reduceSub, Nat.reduceMul, Int.reduceAdd, Int.reduceMul, Int.reduceSub, Int.reduceLT, Int.reduceLE, Int.reduceEq, Int.reduceNe, Nat.reduceLeDiff, Nat.reduceLT, Int.reduceNeg, Nat.reducePow, Nat.reduceMod, ByteArray.size, d4, d5, List.length_map, hgk, entV, entL, d6]))
    refine goC_p _ (.inl ⟨by simp only [AV.free, AV.free.freeL, free_u8, Bool.and_self], ref_alike_c f e⟩) ?_
    cases h7 : alikeB f e
    · rw [h7, if_neg (by decide)] at hZ
      subst hZ
      repeat (first | refine wA ?_ | refine wB ?_ | refine wC rfl ?_ | refine wD rfl ?_ | refine wE ?_ | refine wF (by omega) ?_ | ((first | refine wG ?_ | refine wH ?_ | refine wI ?_ | refine wJ ?_ | refine wK ?_ | refine wL ?_); simp (disch := omega) only [wP, wZ, undef, UInt8.reduceToNat, Nat.reduceOr, Nat.reduceAnd, Nat.reduceXor, Nat.reduceDiv, if_pos, if_neg, aStore, frz, AV.flat, ↓reduceIte, ne_eq, reduceCtorEq, Int.reduceToNat, Nat.reduceEqDiff, Nat.reduceAdd, Nat.reduceSub, Nat.reduceMul, Int.reduceAdd, Int.reduceMul, Int.reduceSub, Int.reduceLT, Int.reduceLE, Int.reduceEq, Int.reduceNe, Nat.reduceLeDiff, Nat.reduceLT, Int.reduceNeg, Nat.reducePow, Nat.reduceMod, ByteArray.size, boo]))
    rw [h7, if_pos rfl] at hZ
    repeat (first | refine wA ?_ | refine wB ?_ | refine wC rfl ?_ | refine wD rfl ?_ | refine wE ?_ | refine wF (by omega) ?_ | ((first | refine wG ?_ | refine wH ?_ | refine wI ?_ | refine wJ ?_ | refine wK ?_ | refine wL ?_); simp (disch := omega) only [wP, wZ, undef, UInt8.reduceToNat, Nat.reduceOr, Nat.reduceAnd, Nat.reduceXor, Nat.reduceDiv, if_pos, if_neg, aStore, frz, AV.flat, ↓reduceIte, ne_eq, reduceCtorEq, Int.reduceToNat, Nat.reduceEqDiff, Nat.reduceAdd, Nat.reduceSub, Nat.reduceMul, Int.reduceAdd, Int.reduceMul, Int.reduceSub, Int.reduceLT, Int.reduceLE, Int.reduceEq, Int.reduceNe, Nat.reduceLeDiff, Nat.reduceLT, Int.reduceNeg, Nat.reducePow, Nat.reduceMod, ByteArray.size, boo]))
  case' neg =>
    have d4 : decide (e.kind = 4) = false := decide_eq_false h4
    rw [if_neg h4] at hZ
    repeat (first | refine wA ?_ | refine wB ?_ | refine wC rfl ?_ | refine wD rfl ?_ | refine wE ?_ | refine wF (by omega) ?_ | ((first | refine wG ?_ | refine wH ?_ | refine wI ?_ | refine wJ ?_ | refine wK ?_ | refine wL ?_); simp (disch := omega) only [wP, wZ, undef, UInt8.reduceToNat, Nat.reduceOr, Nat.reduceAnd, Nat.reduceXor, Nat.reduceDiv, if_pos, if_neg, aStore, frz, AV.flat, ↓reduceIte, ne_eq, reduceCtorEq, Int.reduceToNat, Nat.reduceEqDiff, Nat.reduceAdd, Nat.reduceSub, Nat.reduceMul, Int.reduceAdd, Int.reduceMul, Int.reduceSub, Int.reduceLT, Int.reduceLE, Int.reduceEq, Int.reduceNe, Nat.reduceLeDiff, Nat.reduceLT, Int.reduceNeg, Nat.reducePow, Nat.reduceMod, ByteArray.size, d1, d4]))
  all_goals
    refine SWp.loop (α := Nat) (fun k => mk 87 1 [(0, .sl nl (some 10) (l.map entV)), (1, int i), (5, .op 5 0 0), (8, int k)] [(5, 0, .row false (entL e))])
      (fun k => k ≤ i ∧ (l.take k).all (fitsB e) = true) (fun k => i - k) 0 ⟨Nat.zero_le _, rfl⟩ (le_mk rfl ?_ ?_ ?_) ?_
    · exact Nat.le_refl _
    iterate 2 (case _ => simp (disch := omega) only [wP, wZ, undef, UInt8.reduceToNat, Nat.reduceOr, Nat.reduceAnd, Nat.reduceXor, Nat.reduceDiv, if_pos, if_neg, aStore, frz, AV.flat, ↓reduceIte, ne_eq, reduceCtorEq, Int.reduceToNat, Nat.reduceEqDiff, Nat.reduceAdd, Nat.reduceSub, Nat.reduceMul, Int.reduceAdd, Int.reduceMul, Int.reduceSub, Int.reduceLT, Int.reduceLE, Int.reduceEq, Int.reduceNe, Nat.reduceLeDiff, Nat.reduceLT, Int.reduceNeg, Nat.reducePow, Nat.reduceMod, ByteArray.size, entL])
    rintro k ⟨hk, hall⟩ -
    by_cases hk' : k < i
    case neg =>
      have dk : decide ((k : Int) < (i : Int)) = false := decide_eq_false (by omega)
      obtain rfl : k = i := by omega
      rw [clash, if_pos hall] at hZ
      subst hZ
      repeat (first | refine wA ?_ | refine wB ?_ | refine wC rfl ?_ | refine wD rfl ?_ | refine wE ?_ | refine wF (by omega) ?_ | ((first | refine wG ?_ | refine wH ?_ | refine wI ?_ | refine wJ ?_ | refine wK ?_ | refine wL ?_); simp (disch := omega) only [wP, wZ, undef, UInt8.reduceToNat, Nat.reduceOr, Nat.reduceAnd, Nat.reduceXor, Nat.reduceDiv, if_pos, if_neg, aStore, frz, AV.flat, ↓reduceIte, ne_eq, reduceCtorEq, Int.reduceToNat, Nat.reduceEqDiff, Nat.reduceAdd, Nat.reduceSub, Nat.reduceMul, Int.reduceAdd, Int.reduceMul, Int.reduceSub, Int.reduceLT, Int.reduceLE, Int.reduceEq, Int.reduceNe, Nat.reduceLeDiff, Nat.reduceLT, Int.reduceNeg, Nat.reducePow, Nat.reduceMod, ByteArray.size, dk]))
    have dk : decide ((k : Int) < (i : Int)) = true := decide_eq_true (by omega)
    have hkl : k < l.length := by omega
    obtain ⟨x, hx⟩ : ∃ x, x = l[k] := ⟨_, rfl⟩
    have hgx := getD_ents hkl
    rw [← hx] at hgx
    have hsx := hs x (by rw [hx]; exact List.getElem_mem hkl)
    have hxm : x ∈ l.take i := by
      rw [hx]
      refine List.mem_of_getElem? (i := k) ?_
      rw [List.getElem?_take, if_pos hk', List.getElem?_eq_getElem hkl]
    have hbad : fitsB e x = false → Z = 9 := fun h => by
      rw [hZ, clash, if_neg]
      rw [Bool.not_eq_true, List.all_eq_false]
      exact ⟨x, hxm, by rw [h]; decide⟩
    repeat (first | refine wA ?_ | refine wB ?_ | refine wC rfl ?_ | refine wD rfl ?_ | refine wE ?_ | refine wF (by omega) ?_ | ((first | refine wG ?_ | refine wH ?_ | refine wI ?_ | refine wJ ?_ | refine wK ?_ | refine wL ?_); simp (disch := omega) only [wP, wZ, undef, UInt8.reduceToNat, Nat.reduceOr, Nat.reduceAnd, Nat.reduceXor, Nat.reduceDiv, if_pos, if_neg, aStore, frz, AV.flat, ↓reduceIte, ne_eq, reduceCtorEq, Int.reduceToNat, Nat.reduceEqDiff, Nat.reduceAdd, Nat.reduceSub, Nat.reduceMul, Int.reduceAdd, Int.reduceMul, Int.reduceSub, Int.reduceLT, Int.reduceLE, Int.reduceEq, Int.reduceNe, Nat.reduceLeDiff, Nat.reduceLT, Int.reduceNeg, Nat.reducePow, Nat.reduceMod, ByteArray.size, dk, List.length_map, hgx, entV, entL]))
    refine goC_p _ (.inl ⟨rfl, ref_above_c x.path e.path hsx.1 s1⟩) ?_
    cases a1 : abv x.path e.path
    case' true =>
      by_cases b1 : x.kind = 2
      case neg =>
        have v1 : decide (x.kind = 2) = false := decide_eq_false b1
        have hz := hbad (by rw [fitsB, a1, v1]; rfl)
        subst hz
        repeat (first | refine wA ?_ | refine wB ?_ | refine wC rfl ?_ | refine wD rfl ?_ | refine wE ?_ | refine wF (by omega) ?_ | ((first | refine wG ?_ | refine wH ?_ | refine wI ?_ | refine wJ ?_ | refine wK ?_ | refine wL ?_); simp (disch := omega) only [wP, wZ, undef, UInt8.reduceToNat, Nat.reduceOr, Nat.reduceAnd, Nat.reduceXor, Nat.reduceDiv, if_pos, if_neg, aStore, frz, AV.flat, ↓reduceIte, ne_eq, reduceCtorEq, Int.reduceToNat, Nat.reduceEqDiff, Nat.reduceAdd, Nat.reduceSub, Nat.reduceMul, Int.reduceAdd, Int.reduceMul, Int.reduceSub, Int.reduceLT, Int.reduceLE, Int.reduceEq, Int.reduceNe, Nat.reduceLeDiff, Nat.reduceLT, Int.reduceNeg, Nat.reducePow, Nat.reduceMod, ByteArray.size, dk, boo, List.length_map, hgx, entV, entL, v1]))
      have v1 : decide (x.kind = 2) = true := decide_eq_true b1
      have hf1 : (abv x.path e.path && !decide (x.kind = 2)) = false := by rw [a1, v1]; rfl
      repeat (first | refine wA ?_ | refine wB ?_ | refine wC rfl ?_ | refine wD rfl ?_ | refine wE ?_ | refine wF (by omega) ?_ | ((first | refine wG ?_ | refine wH ?_ | refine wI ?_ | refine wJ ?_ | refine wK ?_ | refine wL ?_); simp (disch := omega) only [wP, wZ, undef, UInt8.reduceToNat, Nat.reduceOr, Nat.reduceAnd, Nat.reduceXor, Nat.reduceDiv, if_pos, if_neg, aStore, frz, AV.flat, ↓reduceIte, ne_eq, reduceCtorEq, Int.reduceToNat, Nat.reduceEqDiff, Nat.reduceAdd, Nat.reduceSub, Nat.reduceMul, Int.reduceAdd, Int.reduceMul, Int.reduceSub, Int.reduceLT, Int.reduceLE, Int.reduceEq, Int.reduceNe, Nat.reduceLeDiff, Nat.reduceLT, Int.reduceNeg, Nat.reducePow, Nat.reduceMod, ByteArray.size, dk, boo, List.length_map, hgx, entV, entL, v1]))
    case' false =>
      have hf1 : (abv x.path e.path && !decide (x.kind = 2)) = false := by rw [a1]; rfl
      repeat (first | refine wA ?_ | refine wB ?_ | refine wC rfl ?_ | refine wD rfl ?_ | refine wE ?_ | refine wF (by omega) ?_ | ((first | refine wG ?_ | refine wH ?_ | refine wI ?_ | refine wJ ?_ | refine wK ?_ | refine wL ?_); simp (disch := omega) only [wP, wZ, undef, UInt8.reduceToNat, Nat.reduceOr, Nat.reduceAnd, Nat.reduceXor, Nat.reduceDiv, if_pos, if_neg, aStore, frz, AV.flat, ↓reduceIte, ne_eq, reduceCtorEq, Int.reduceToNat, Nat.reduceEqDiff, Nat.reduceAdd, Nat.reduceSub, Nat.reduceMul, Int.reduceAdd, Int.reduceMul, Int.reduceSub, Int.reduceLT, Int.reduceLE, Int.reduceEq, Int.reduceNe, Nat.reduceLeDiff, Nat.reduceLT, Int.reduceNeg, Nat.reducePow, Nat.reduceMod, ByteArray.size, dk, boo, List.length_map, hgx, entV, entL]))
    all_goals
      refine goC_p _ (.inl ⟨rfl, ref_above_c e.path x.path s1 hsx.1⟩) ?_
      cases a2 : abv e.path x.path
      case' true =>
        by_cases b2 : e.kind = 2
        case neg =>
          have v2 : decide (e.kind = 2) = false := decide_eq_false b2
          have hz := hbad (by rw [fitsB, a2, v2]; simp)
          subst hz
          repeat (first | refine wA ?_ | refine wB ?_ | refine wC rfl ?_ | refine wD rfl ?_ | refine wE ?_ | refine wF (by omega) ?_ | ((first | refine wG ?_ | refine wH ?_ | refine wI ?_ | refine wJ ?_ | refine wK ?_ | refine wL ?_); simp (disch := omega) only [wP, wZ, undef, UInt8.reduceToNat, Nat.reduceOr, Nat.reduceAnd, Nat.reduceXor, Nat.reduceDiv, if_pos, if_neg, aStore, frz, AV.flat, ↓reduceIte, ne_eq, reduceCtorEq, Int.reduceToNat, Nat.reduceEqDiff, Nat.reduceAdd, Nat.reduceSub, Nat.reduceMul, Int.reduceAdd, Int.reduceMul, Int.reduceSub, Int.reduceLT, Int.reduceLE, Int.reduceEq, Int.reduceNe, Nat.reduceLeDiff, Nat.reduceLT, Int.reduceNeg, Nat.reducePow, Nat.reduceMod, ByteArray.size, dk, boo, List.length_map, hgx, entV, entL, v2]))
        first
          | (exfalso; omega)
          | (have v2 : decide (e.kind = 2) = true := decide_eq_true b2
             have hf2 : (abv e.path x.path && !decide (e.kind = 2)) = false := by rw [a2, v2]; rfl
             repeat (first | refine wA ?_ | refine wB ?_ | refine wC rfl ?_ | refine wD rfl ?_ | refine wE ?_ | refine wF (by omega) ?_ | ((first | refine wG ?_ | refine wH ?_ | refine wI ?_ | refine wJ ?_ | refine wK ?_ | refine wL ?_); simp (disch := omega) only [wP, wZ, undef, UInt8.reduceToNat, Nat.reduceOr, Nat.reduceAnd, Nat.reduceXor, Nat.reduceDiv, if_pos, if_neg, aStore, frz, AV.flat, ↓reduceIte, ne_eq, reduceCtorEq, Int.reduceToNat, Nat.reduceEqDiff, Nat.reduceAdd, Nat.reduceSub, Nat.reduceMul, Int.reduceAdd, Int.reduceMul, Int.reduceSub, Int.reduceLT, Int.reduceLE, Int.reduceEq, Int.reduceNe, Nat.reduceLeDiff, Nat.reduceLT, Int.reduceNeg, Nat.reducePow, Nat.reduceMod, ByteArray.size, dk, boo, List.length_map, hgx, entV, entL, v2])))
      case' false =>
        have hf2 : (abv e.path x.path && !decide (e.kind = 2)) = false := by rw [a2]; rfl
        repeat (first | refine wA ?_ | refine wB ?_ | refine wC rfl ?_ | refine wD rfl ?_ | refine wE ?_ | refine wF (by omega) ?_ | ((first | refine wG ?_ | refine wH ?_ | refine wI ?_ | refine wJ ?_ | refine wK ?_ | refine wL ?_); simp (disch := omega) only [wP, wZ, undef, UInt8.reduceToNat, Nat.reduceOr, Nat.reduceAnd, Nat.reduceXor, Nat.reduceDiv, if_pos, if_neg, aStore, frz, AV.flat, ↓reduceIte, ne_eq, reduceCtorEq, Int.reduceToNat, Nat.reduceEqDiff, Nat.reduceAdd, Nat.reduceSub, Nat.reduceMul, Int.reduceAdd, Int.reduceMul, Int.reduceSub, Int.reduceLT, Int.reduceLE, Int.reduceEq, Int.reduceNe, Nat.reduceLeDiff, Nat.reduceLT, Int.reduceNeg, Nat.reducePow, Nat.reduceMod, ByteArray.size, dk, boo, List.length_map, hgx, entV, entL]))
      all_goals
        have hgd : fitsB e x = true := by rw [fitsB, hf1, hf2]; rfl
        have hxk : l[k]? = some x := by rw [List.getElem?_eq_getElem hkl, hx]
        have hnx : (l.take (k + 1)).all (fitsB e) = true := all_takeS hall hxk hgd
        refine At.of (k + 1) ⟨by omega, hnx⟩ (by omega) rfl rfl (Nat.le_refl _) ?_ ?_
        iterate 2 (case _ => simp (disch := omega) only [wP, wZ, undef, UInt8.reduceToNat, Nat.reduceOr, Nat.reduceAnd, Nat.reduceXor, Nat.reduceDiv, if_pos, if_neg, aStore, frz, AV.flat, ↓reduceIte, ne_eq, reduceCtorEq, Int.reduceToNat, Nat.reduceEqDiff, Nat.reduceAdd, Nat.reduceSub, Nat.reduceMul, Int.reduceAdd, Int.reduceMul, Int.reduceSub, Int.reduceLT, Int.reduceLE, Int.reduceEq, Int.reduceNe, Nat.reduceLeDiff, Nat.reduceLT, Int.reduceNeg, Nat.reducePow, Nat.reduceMod, ByteArray.size, entL])
end Go.Proofs.YtbmmdkbinlnogaaDoor.Aw
namespace Go.Proofs.YtbmmdkbinlnogaaDoor.Aw
open Go
set_option linter.unusedSimpArgs false
set_option linter.unusedVariables false
abbrev ltB := Op.bytesLess
theorem ltB_irrefl : ∀ a : List UInt8, ltB a a = false
  | [] => rfl
  | a :: x => by
    have h := ltB_irrefl x
    simp only [ltB, Op.bytesLess] at h ⊢
    simp [h, UInt8.lt_irrefl]
theorem ltB_cons {a b : UInt8} {x y : List UInt8} : ltB (a :: x) (b :: y) = true ↔ a < b ∨ a = b ∧ ltB x y = true := by
  simp [ltB, Op.bytesLess]
theorem ltB_trans : ∀ {a b c : List UInt8}, ltB a b = true → ltB b c = true → ltB a c = true
  | _, [], _, h, _ => by simp [ltB, Op.bytesLess] at h
  | _, _ :: _, [], _, h => by simp [ltB, Op.bytesLess] at h
  | [], _ :: _, _ :: _, _, _ => rfl
  | a :: x, b :: y, c :: z, h1, h2 => by
    rw [ltB_cons] at h1 h2 ⊢
    rcases h1 with h1 | ⟨rfl, h1⟩
    · rcases h2 with h2 | ⟨rfl, _⟩
      · exact .inl (UInt8.lt_trans h1 h2)
      · exact .inl h1
    · rcases h2 with h2 | ⟨rfl, h2⟩
      · exact .inl h2
      · exact .inr ⟨rfl, ltB_trans h1 h2⟩
theorem ltB_tri : ∀ {a b : List UInt8}, ltB a b = false → ltB b a = false → a = b
  | [], [], _, _ => rfl
  | [], _ :: _, h, _ => by simp [ltB, Op.bytesLess] at h
  | _ :: _, [], _, h => by simp [ltB, Op.bytesLess] at h
  | a :: x, b :: y, h1, h2 => by
    have h1' : ¬ (a < b ∨ a = b ∧ ltB x y = true) := fun h => by rw [ltB_cons.2 h] at h1; cases h1
    have h2' : ¬ (b < a ∨ b = a ∧ ltB y x = true) := fun h => by rw [ltB_cons.2 h] at h2; cases h2
    have e : a = b := UInt8.le_antisymm (UInt8.not_lt.1 fun h => h2' (.inl h)) (UInt8.not_lt.1 fun h => h1' (.inl h))
    subst e
    have e1 : ltB x y = false := by cases h : ltB x y; rfl; exact absurd (.inr ⟨rfl, h⟩) h1'
    have e2 : ltB y x = false := by cases h : ltB y x; rfl; exact absurd (.inr ⟨rfl, h⟩) h2'
    rw [ltB_tri e1 e2]
theorem ltB_asymm {a b : List UInt8} (h : ltB a b = true) : ltB b a = false := by
  cases h' : ltB b a
  · rfl
  · have := ltB_trans h h'
    rw [ltB_irrefl] at this
    cases this
theorem cmp_ltB : ∀ a b : List UInt8, decide (Lib.compareBytes a b < 0) = ltB a b
  | [], [] => rfl
  | [], _ :: _ => rfl
  | _ :: _, [] => rfl
  | a :: x, b :: y => by
    have ih := cmp_ltB x y
    rw [Lib.compareBytes]
    by_cases h1 : a < b
    · rw [if_pos h1, ltB_cons.2 (.inl h1)]; rfl
    · rw [if_neg h1]
      by_cases h2 : b < a
      · rw [if_pos h2]
        cases h : ltB (a :: x) (b :: y)
        · rfl
        · rw [ltB_cons] at h
          rcases h with h | ⟨rfl, _⟩
          · exact absurd h h1
          · exact absurd h2 (UInt8.lt_irrefl _)
      · rw [if_neg h2]
        have e : a = b := UInt8.le_antisymm (UInt8.not_lt.1 h2) (UInt8.not_lt.1 h1)
        subst e
        rw [ih]
        simp [ltB, Op.bytesLess, UInt8.lt_irrefl]
def insE (x : Ent) : List Ent → List Ent
  | [] => [x]
  | y :: r => if ltB y.path x.path then y :: insE x r else x :: y :: r
def sortE (l : List Ent) : List Ent := l.foldl (fun o x => insE x o) []
abbrev SrtE (l : List Ent) : Prop := l.Pairwise fun a b => ltB a.path b.path = true
theorem insE_perm (x : Ent) : ∀ l, (insE x l).Perm (x :: l)
  | [] => List.Perm.refl _
  | y :: r => by
    rw [insE]
    split
    · exact ((insE_perm x r).cons y).trans (List.Perm.swap x y r)
    · exact List.Perm.refl _
theorem foldE_perm : ∀ (l o : List Ent), (l.foldl (fun o x => insE x o) o).Perm (o ++ l)
  | [], o => by simp
  | x :: l, o => by
    rw [List.foldl_cons]
    refine (foldE_perm l (insE x o)).trans ?_
    refine ((insE_perm x o).append_right l).trans ?_
    exact (List.perm_middle (a := x) (l₁ := o) (l₂ := l)).symm
theorem sortE_perm (l : List Ent) : (sortE l).Perm l := by simpa [sortE] using foldE_perm l []
theorem insE_srt (x : Ent) : ∀ {l : List Ent}, SrtE l → (∀ e ∈ l, e.path ≠ x.path) → SrtE (insE x l)
  | [], _, _ => by simp [insE, SrtE]
  | y :: r, h, hn => by
    have h' := List.pairwise_cons.1 h
    rw [insE]
    split
    · rename_i hl
      refine List.pairwise_cons.2 ⟨fun e he => ?_, insE_srt x h'.2 (fun e he => hn e (by simp [he]))⟩
      have := (insE_perm x r).subset he
      rcases List.mem_cons.1 this with rfl | he
      · exact hl
      · exact h'.1 e he
    · rename_i hl
      have hxy : ltB x.path y.path = true := by
        cases hh : ltB x.path y.path
        · exact absurd (ltB_tri (by simpa using hl) hh) (hn y (by simp))
        · rfl
      refine List.pairwise_cons.2 ⟨fun e he => ?_, h⟩
      rcases List.mem_cons.1 he with rfl | he
      · exact hxy
      · exact ltB_trans hxy (h'.1 e he)
theorem foldE_srt : ∀ {l o : List Ent}, SrtE o → ((o ++ l).map (·.path)).Nodup → SrtE (l.foldl (fun o x => insE x o) o)
  | [], o, h, _ => h
  | x :: l, o, h, hn => by
    rw [List.foldl_cons]
    have hp : ((insE x o) ++ l).Perm (o ++ x :: l) := ((insE_perm x o).append_right l).trans (List.perm_middle (a := x) (l₁ := o) (l₂ := l)).symm
    refine foldE_srt (insE_srt x h fun e he => ?_) ((hp.map _).nodup_iff.2 hn)
    rw [List.map_append, List.nodup_append] at hn
    exact hn.2.2 e.path (List.mem_map.2 ⟨e, he, rfl⟩) x.path (by simp)
theorem sortE_srt {l : List Ent} (h : (l.map (·.path)).Nodup) : SrtE (sortE l) := foldE_srt (o := []) List.Pairwise.nil (by simpa using h)
theorem srtE_unique {a b : List Ent} (ha : SrtE a) (hb : SrtE b) (h : a.Perm b) : a = b := by
  refine List.Perm.eq_of_pairwise (le := fun a b => ltB a.path b.path = true) (fun x y _ _ h1 h2 => ?_) ha hb h
  rw [ltB_asymm h1] at h2
  cases h2
theorem srtE_sortE {l m : List Ent} (h : SrtE m) (hp : m.Perm l) (hn : (l.map (·.path)).Nodup) : m = sortE l :=
  srtE_unique h (sortE_srt hn) (hp.trans (sortE_perm l).symm)
theorem sortE_length {l : List Ent} : (sortE l).length = l.length := (sortE_perm l).length_eq
theorem mem_sortE {l : List Ent} {e : Ent} : e ∈ sortE l ↔ e ∈ l := (sortE_perm l).mem_iff
end Go.Proofs.YtbmmdkbinlnogaaDoor.Aw
namespace Go.Proofs.YtbmmdkbinlnogaaDoor.Aw
open Go
set_option linter.unusedSimpArgs false
set_option linter.unusedVariables false
def badAt (a : List Ent) : List Ent → Nat → Int × Int
  | [], _ => (0, 0)
  | e :: r, i => if badE a e = 0 then badAt (a ++ [e]) r (i + 1) else ((i : Int), badE a e)
def chkAll (l : List Ent) : Int × Int := if 4096 < l.length then (4096, 4) else badAt [] l 0
theorem badAt_step {l : List Ent} {k : Nat} (hk : k < l.length) : badAt (l.take k) (l.drop k) k = if badE (l.take k) l[k] = 0 then badAt (l.take (k + 1)) (l.drop (k + 1)) (k + 1) else ((k : Int), badE (l.take k) l[k]) := by
  rw [List.drop_eq_getElem_cons hk, badAt, List.take_add_one, List.getElem?_eq_getElem hk]
  rfl
set_option maxHeartbeats 2000000 in
set_option maxRecDepth 100000 in
theorem ref_CheckAll_c [Tabs Tryd.prog] (nl : Bool) (l : List Ent) (hl : l.length ≤ 1000000) (hs : ∀ e ∈ l, entS e) : Con Tryd.prog n_drayageref07_CheckAll [.sl nl (some 10) (l.map entV)] (.tup [int (chkAll l).1, int (chkAll l).2]) := by
  refine Con.of' mix Tryd.func16 rfl Tryd.ntmps16 e_drayageref07_CheckAll r_drayageref07_CheckAll (by simp) (by simp only [AV.free, AV.free.freeL, free_ents, Bool.and_self]) rfl ?_
  unfold s_drayageref07_CheckAll
  obtain ⟨Z, hZ⟩ : ∃ Z, Z = chkAll l := ⟨_, rfl⟩
  rw [← hZ]
  rw [chkAll] at hZ
  by_cases h1 : 4096 < l.length
  · have d1 : decide ((4096 : Int) < (l.length : Int)) = true := decide_eq_true (by omega)
    rw [if_pos h1] at hZ
    subst hZ
    repeat (first | refine wA ?_ | refine wB ?_ | refine wC rfl ?_ | refine wD rfl ?_ | refine wE ?_ | refine wF (by omega) ?_ | ((first | refine wG ?_ | refine wH ?_ | refine wI ?_ | refine wJ ?_ | refine wK ?_ | refine wL ?_); simp (disch := omega) only [wP, wZ, undef, UInt8.reduceToNat, Nat.reduceOr, Nat.reduceAnd, Nat.reduceXor, Nat.reduceDiv, if_pos, if_neg, aStore, frz, AV.flat, ↓reduceIte, ne_eq, reduceCtorEq, Int.reduceToNat, Nat.reduceEqDiff, Nat.reduceAdd, Nat.reduceSub, Nat.reduceMul, Int.reduceAdd, Int.reduceMul, Int.reduceSub, Int.reduceLT, Int.reduceLE, Int.reduceEq, Int.reduceNe, Nat.reduceLeDiff, Nat.reduceLT, Int.reduceNeg, Nat.reducePow, Nat.reduceMod, ByteArray.size, d1, List.length_map]))
  have d1 : decide ((4096 : Int) < (l.length : Int)) = false := decide_eq_false (by omega)
  rw [if_neg h1] at hZ
  repeat (first | refine wA ?_ | refine wB ?_ | refine wC rfl ?_ | refine wD rfl ?_ | refine wE ?_ | refine wF (by omega) ?_ | ((first | refine wG ?_ | refine wH ?_ | refine wI ?_ | refine wJ ?_ | refine wK ?_ | refine wL ?_); simp (disch := omega) only [wP, wZ, undef, UInt8.reduceToNat, Nat.reduceOr, Nat.reduceAnd, Nat.reduceXor, Nat.reduceDiv, if_pos, if_neg, aStore, frz, AV.flat, ↓reduceIte, ne_eq, reduceCtorEq, Int.reduceToNat, Nat.reduceEqDiff, Nat.reduceAdd, Nat.reduceSub, Nat.reduceMul, Int.reduceAdd, Int.reduceMul, Int.reduceSub, Int.reduceLT, Int.reduceLE, Int.reduceEq, Int.reduceNe, Nat.reduceLeDiff, Nat.reduceLT, Int.reduceNeg, Nat.reducePow, Nat.reduceMod, ByteArray.size, d1, List.length_map]))
  refine SWp.loop (α := Nat) (fun k => mk 22 0 [(0, .sl nl (some 10) (l.map entV)), (4, int k)] [])
    (fun k => k ≤ l.length ∧ Z = badAt (l.take k) (l.drop k) k) (fun k => l.length - k) 0 ⟨Nat.zero_le _, hZ⟩ (le_mk rfl (Nat.le_refl _) ?_ ?_) ?_
  iterate 2 (case _ => simp (disch := omega) only [wP, wZ, undef, UInt8.reduceToNat, Nat.reduceOr, Nat.reduceAnd, Nat.reduceXor, Nat.reduceDiv, if_pos, if_neg, aStore, frz, AV.flat, ↓reduceIte, ne_eq, reduceCtorEq, Int.reduceToNat, Nat.reduceEqDiff, Nat.reduceAdd, Nat.reduceSub, Nat.reduceMul, Int.reduceAdd, Int.reduceMul, Int.reduceSub, Int.reduceLT, Int.reduceLE, Int.reduceEq, Int.reduceNe, Nat.reduceLeDiff, Nat.reduceLT, Int.reduceNeg, Nat.reducePow, Nat.reduceMod, ByteArray.size])
  rintro k ⟨hk, hz⟩ -
  by_cases hk' : k < l.length
  case neg =>
    have dk : decide ((k : Int) < (l.length : Int)) = false := decide_eq_false (by omega)
    rw [List.drop_eq_nil_of_le (by omega), badAt] at hz
    subst hz
    repeat (first | refine wA ?_ | refine wB ?_ | refine wC rfl ?_ | refine wD rfl ?_ | refine wE ?_ | refine wF (by omega) ?_ | ((first | refine wG ?_ | refine wH ?_ | refine wI ?_ | refine wJ ?_ | refine wK ?_ | refine wL ?_); simp (disch := omega) only [wP, wZ, undef, UInt8.reduceToNat, Nat.reduceOr, Nat.reduceAnd, Nat.reduceXor, Nat.reduceDiv, if_pos, if_neg, aStore, frz, AV.flat, ↓reduceIte, ne_eq, reduceCtorEq, Int.reduceToNat, Nat.reduceEqDiff, Nat.reduceAdd, Nat.reduceSub, Nat.reduceMul, Int.reduceAdd, Int.reduceMul, Int.reduceSub, Int.reduceLT, Int.reduceLE, Int.reduceEq, Int.reduceNe, Nat.reduceLeDiff, Nat.reduceLT, Int.reduceNeg, Nat.reducePow, Nat.reduceMod, ByteArray.size, dk, List.length_map]))
  have dk : decide ((k : Int) < (l.length : Int)) = true := decide_eq_true (by omega)
  rw [badAt_step hk'] at hz
  repeat (first | refine wA ?_ | refine wB ?_ | refine wC rfl ?_ | refine wD rfl ?_ | refine wE ?_ | refine wF (by omega) ?_ | ((first | refine wG ?_ | refine wH ?_ | refine wI ?_ | refine wJ ?_ | refine wK ?_ | refine wL ?_); simp (disch := omega) only [wP, wZ, undef, UInt8.reduceToNat, Nat.reduceOr, Nat.reduceAnd, Nat.reduceXor, Nat.reduceDiv, if_pos, if_neg, aStore, frz, AV.flat, ↓reduceIte, ne_eq, reduceCtorEq, Int.reduceToNat, Nat.reduceEqDiff, Nat.reduceAdd, Nat.reduceSub, Nat.reduceMul, Int.reduceAdd, Int.reduceMul, Int.reduceSub, Int.reduceLT, Int.reduceLE, Int.reduceEq, Int.reduceNe, Nat.reduceLeDiff, Nat.reduceLT, Int.reduceNeg, Nat.reducePow, Nat.reduceMod, ByteArray.size, dk, List.length_map]))
  refine goC_p _ (.inl ⟨by simp only [AV.free, AV.free.freeL, free_ents, Bool.and_self], ref_bad_c nl l hl hs k hk'⟩) ?_
  obtain ⟨b, hb⟩ : ∃ b, b = badE (l.take k) l[k] := ⟨_, rfl⟩
  rw [← hb] at hz ⊢
  by_cases h0 : b = 0
  · have d0 : decide (b = 0) = true := decide_eq_true h0
    rw [if_pos h0] at hz
    repeat (first | refine wA ?_ | refine wB ?_ | refine wC rfl ?_ | refine wD rfl ?_ | refine wE ?_ | refine wF (by omega) ?_ | ((first | refine wG ?_ | refine wH ?_ | refine wI ?_ | refine wJ ?_ | refine wK ?_ | refine wL ?_); simp (disch := omega) only [wP, wZ, undef, UInt8.reduceToNat, Nat.reduceOr, Nat.reduceAnd, Nat.reduceXor, Nat.reduceDiv, if_pos, if_neg, aStore, frz, AV.flat, ↓reduceIte, ne_eq, reduceCtorEq, Int.reduceToNat, Nat.reduceEqDiff, Nat.reduceAdd, Nat.reduceSub, Nat.reduceMul, Int.reduceAdd, Int.reduceMul, Int.reduceSub, Int.reduceLT, Int.reduceLE, Int.reduceEq, Int.reduceNe, Nat.reduceLeDiff, Nat.reduceLT, Int.reduceNeg, Nat.reducePow, Nat.reduceMod, ByteArray.size, d0]))
    refine At.of (k + 1) ⟨by omega, hz⟩ (by omega) rfl rfl (Nat.le_refl _) ?_ ?_
    iterate 2 (case _ => simp (disch := omega) only [wP, wZ, undef, UInt8.reduceToNat, Nat.reduceOr, Nat.reduceAnd, Nat.reduceXor, Nat.reduceDiv, if_pos, if_neg, aStore, frz, AV.flat, ↓reduceIte, ne_eq, reduceCtorEq, Int.reduceToNat, Nat.reduceEqDiff, Nat.reduceAdd, Nat.reduceSub, Nat.reduceMul, Int.reduceAdd, Int.reduceMul, Int.reduceSub, Int.reduceLT, Int.reduceLE, Int.reduceEq, Int.reduceNe, Nat.reduceLeDiff, Nat.reduceLT, Int.reduceNeg, Nat.reducePow, Nat.reduceMod, ByteArray.size])
  · have d0 : decide (b = 0) = false := decide_eq_false h0
    rw [if_neg h0] at hz
    subst hz
    repeat (first | refine wA ?_ | refine wB ?_ | refine wC rfl ?_ | refine wD rfl ?_ | refine wE ?_ | refine wF (by omega) ?_ | ((first | refine wG ?_ | refine wH ?_ | refine wI ?_ | refine wJ ?_ | refine wK ?_ | refine wL ?_); simp (disch := omega) only [wP, wZ, undef, UInt8.reduceToNat, Nat.reduceOr, Nat.reduceAnd, Nat.reduceXor, Nat.reduceDiv, if_pos, if_neg, aStore, frz, AV.flat, ↓reduceIte, ne_eq, reduceCtorEq, Int.reduceToNat, Nat.reduceEqDiff, Nat.reduceAdd, Nat.reduceSub, Nat.reduceMul, Int.reduceAdd, Int.reduceMul, Int.reduceSub, Int.reduceLT, Int.reduceLE, Int.reduceEq, Int.reduceNe, Nat.reduceLeDiff, Nat.reduceLT, Int.reduceNeg, Nat.reducePow, Nat.reduceMod, ByteArray.size, d0]))
end Go.Proofs.YtbmmdkbinlnogaaDoor.Aw
namespace Go.Proofs.YtbmmdkbinlnogaaDoor.Aw
open Go
set_option linter.unusedSimpArgs false
set_option linter.unusedVariables false
structure CaOk [Tabs Tryd.prog] : Prop where
  three : ∀ s : List UInt8, s.length ≤ 200 → Con Tryd.prog n_strings_ContainsAny [str s, .sc (.string ⟨#[0, 10, 58]⟩)] (boo (hasB s 0 || (hasB s 10 || hasB s 58)))
  two : ∀ s : List UInt8, s.length ≤ 200 → Con Tryd.prog n_strings_ContainsAny [str s, .sc (.string ⟨#[0, 10]⟩)] (boo (hasB s 0 || hasB s 10))
set_option maxHeartbeats 1000000 in
set_option maxRecDepth 100000 in
theorem isOwner_c [Tabs Tryd.prog] (hca : CaOk) (s : List UInt8) (hs : s.length ≤ 1000000) : Con Tryd.prog n_entry_isOwner [str s] (boo (ownOk s)) := by
  refine Con.of' mix Tryd.func34 rfl Tryd.ntmps34 e_entry_isOwner r_entry_isOwner (by simp) rfl rfl ?_
  unfold s_entry_isOwner
  obtain ⟨Z, hZ⟩ : ∃ Z, Z = ownOk s := ⟨_, rfl⟩
  rw [← hZ]
  rw [ownOk] at hZ
  by_cases h1 : s.length ≤ 31
  case neg =>
    have d1 : decide ((s.length : Int) ≤ 31) = false := decide_eq_false (by omega)
    rw [decide_eq_false h1, Bool.false_and] at hZ
    subst hZ
    repeat (first | refine wA ?_ | refine wB ?_ | refine wC rfl ?_ | refine wD rfl ?_ | refine wE ?_ | refine wF (by omega) ?_ | ((first | refine wG ?_ | refine wH ?_ | refine wI ?_ | refine wJ ?_ | refine wK ?_ | refine wL ?_); simp (disch := omega) only [wP, wZ, undef, UInt8.reduceToNat, Nat.reduceOr, Nat.reduceAnd, Nat.reduceXor, Nat.reduceDiv, if_pos, if_neg, aStore, frz, AV.flat, ↓reduceIte, ne_eq, reduceCtorEq, Int.reduceToNat, Nat.reduceEqDiff, Nat.reduceAdd, Nat.reduceSub, Nat.reduceMul, Int.reduceAdd, Int.reduceMul, Int.reduceSub, Int.reduceLT, Int.reduceLE, Int.reduceEq, Int.reduceNe, Nat.reduceLeDiff, Nat.reduceLT, Int.reduceNeg, Nat.reducePow, Nat.reduceMod, ByteArray.size, boo, d1]))
  have d1 : decide ((s.length : Int) ≤ 31) = true := decide_eq_true (by omega)
  rw [decide_eq_true h1, Bool.true_and] at hZ
  repeat (first | refine wA ?_ | refine wB ?_ | refine wC rfl ?_ | refine wD rfl ?_ | refine wE ?_ | refine wF (by omega) ?_ | ((first | refine wG ?_ | refine wH ?_ | refine wI ?_ | refine wJ ?_ | refine wK ?_ | refine wL ?_); simp (disch := omega) only [wP, wZ, undef, UInt8.reduceToNat, Nat.reduceOr, Nat.reduceAnd, Nat.reduceXor, Nat.reduceDiv, if_pos, if_neg, aStore, frz, AV.flat, ↓reduceIte, ne_eq, reduceCtorEq, Int.reduceToNat, Nat.reduceEqDiff, Nat.reduceAdd, Nat.reduceSub, Nat.reduceMul, Int.reduceAdd, Int.reduceMul, Int.reduceSub, Int.reduceLT, Int.reduceLE, Int.reduceEq, Int.reduceNe, Nat.reduceLeDiff, Nat.reduceLT, Int.reduceNeg, Nat.reducePow, Nat.reduceMod, ByteArray.size, boo, d1]))
  refine goC_p _ (.inl ⟨rfl, hca.three s (by omega)⟩) ?_
  have e : Z = !(hasB s 0 || (hasB s 10 || hasB s 58)) := by rw [hZ]; simp
  cases h2 : (hasB s 0 || (hasB s 10 || hasB s 58))
  · rw [h2] at e
    subst e
    repeat (first | refine wA ?_ | refine wB ?_ | refine wC rfl ?_ | refine wD rfl ?_ | refine wE ?_ | refine wF (by omega) ?_ | ((first | refine wG ?_ | refine wH ?_ | refine wI ?_ | refine wJ ?_ | refine wK ?_ | refine wL ?_); simp (disch := omega) only [wP, wZ, undef, UInt8.reduceToNat, Nat.reduceOr, Nat.reduceAnd, Nat.reduceXor, Nat.reduceDiv, if_pos, if_neg, aStore, frz, AV.flat, ↓reduceIte, ne_eq, reduceCtorEq, Int.reduceToNat, Nat.reduceEqDiff, Nat.reduceAdd, Nat.reduceSub, Nat.reduceMul, Int.reduceAdd, Int.reduceMul, Int.reduceSub, Int.reduceLT, Int.reduceLE, Int.reduceEq, Int.reduceNe, Nat.reduceLeDiff, Nat.reduceLT, Int.reduceNeg, Nat.reducePow, Nat.reduceMod, ByteArray.size, boo, d1]))
  · rw [h2] at e
    subst e
    repeat (first | refine wA ?_ | refine wB ?_ | refine wC rfl ?_ | refine wD rfl ?_ | refine wE ?_ | refine wF (by omega) ?_ | ((first | refine wG ?_ | refine wH ?_ | refine wI ?_ | refine wJ ?_ | refine wK ?_ | refine wL ?_); simp (disch := omega) only [wP, wZ, undef, UInt8.reduceToNat, Nat.reduceOr, Nat.reduceAnd, Nat.reduceXor, Nat.reduceDiv, if_pos, if_neg, aStore, frz, AV.flat, ↓reduceIte, ne_eq, reduceCtorEq, Int.reduceToNat, Nat.reduceEqDiff, Nat.reduceAdd, Nat.reduceSub, Nat.reduceMul, Int.reduceAdd, Int.reduceMul, Int.reduceSub, Int.reduceLT, Int.reduceLE, Int.reduceEq, Int.reduceNe, Nat.reduceLeDiff, Nat.reduceLT, Int.reduceNeg, Nat.reducePow, Nat.reduceMod, ByteArray.size, boo, d1]))
set_option maxHeartbeats 1000000 in
set_option maxRecDepth 100000 in
theorem pointsRight_c [Tabs Tryd.prog] (hca : CaOk) (e : Ent) (he : entS e) : Con Tryd.prog n_entry_pointsRight [entV e] (boo (linkOk e)) := by
  obtain ⟨s1, s2, s3, s4, s5⟩ := he
  refine Con.of' mix Tryd.func35 rfl Tryd.ntmps35 e_entry_pointsRight r_entry_pointsRight (by simp) free_entV rfl ?_
  unfold s_entry_pointsRight
  obtain ⟨Z, hZ⟩ : ∃ Z, Z = linkOk e := ⟨_, rfl⟩
  rw [← hZ]
  rw [linkOk] at hZ
  by_cases k3 : e.kind = 3
  · have q3 : decide (e.kind = 3) = true := decide_eq_true k3
    rw [if_pos k3] at hZ
    by_cases l0 : e.link = []
    · have r0 : decide (e.link = []) = true := decide_eq_true l0
      rw [r0, Bool.not_true, Bool.false_and] at hZ
      subst hZ
      repeat (first | refine wA ?_ | refine wB ?_ | refine wC rfl ?_ | refine wD rfl ?_ | refine wE ?_ | refine wF (by omega) ?_ | ((first | refine wG ?_ | refine wH ?_ | refine wI ?_ | refine wJ ?_ | refine wK ?_ | refine wL ?_); simp (disch := omega) only [wP, wZ, undef, UInt8.reduceToNat, Nat.reduceOr, Nat.reduceAnd, Nat.reduceXor, Nat.reduceDiv, if_pos, if_neg, aStore, frz, AV.flat, ↓reduceIte, ne_eq, reduceCtorEq, Int.reduceToNat, Nat.reduceEqDiff, Nat.reduceAdd, Nat.reduceSub, Nat.reduceMul, Int.reduceAdd, Int.reduceMul, Int.reduceSub, Int.reduceLT, Int.reduceLE, Int.reduceEq, Int.reduceNe, Nat.reduceLeDiff, Nat.reduceLT, Int.reduceNeg, Nat.reducePow, Nat.reduceMod, ByteArray.size, boo, entV, entL, q3, r0]))
    have r0 : decide (e.link = []) = false := decide_eq_false l0
    rw [r0, Bool.not_false, Bool.true_and] at hZ
    by_cases l1 : e.link.length ≤ 200
    case neg =>
      have r1 : decide ((e.link.length : Int) ≤ 200) = false := decide_eq_false (by omega)
      rw [decide_eq_false l1, Bool.false_and] at hZ
      subst hZ
      repeat (first | refine wA ?_ | refine wB ?_ | refine wC rfl ?_ | refine wD rfl ?_ | refine wE ?_ | refine wF (by omega) ?_ | ((first | refine wG ?_ | refine wH ?_ | refine wI ?_ | refine wJ ?_ | refine wK ?_ | refine wL ?_); simp (disch := omega) only [wP, wZ, undef, UInt8.reduceToNat, Nat.reduceOr, Nat.reduceAnd, Nat.reduceXor, Nat.reduceDiv, if_pos, if_neg, aStore, frz, AV.flat, ↓reduceIte, ne_eq, reduceCtorEq, Int.reduceToNat, Nat.reduceEqDiff, Nat.reduceAdd, Nat.reduceSub, Nat.reduceMul, Int.reduceAdd, Int.reduceMul, Int.reduceSub, Int.reduceLT, Int.reduceLE, Int.reduceEq, Int.reduceNe, Nat.reduceLeDiff, Nat.reduceLT, Int.reduceNeg, Nat.reducePow, Nat.reduceMod, ByteArray.size, boo, entV, entL, q3, r0, r1]))
    have r1 : decide ((e.link.length : Int) ≤ 200) = true := decide_eq_true (by omega)
    rw [decide_eq_true l1, Bool.true_and] at hZ
    repeat (first | refine wA ?_ | refine wB ?_ | refine wC rfl ?_ | refine wD rfl ?_ | refine wE ?_ | refine wF (by omega) ?_ | ((first | refine wG ?_ | refine wH ?_ | refine wI ?_ | refine wJ ?_ | refine wK ?_ | refine wL ?_); simp (disch := omega) only [wP, wZ, undef, UInt8.reduceToNat, Nat.reduceOr, Nat.reduceAnd, Nat.reduceXor, Nat.reduceDiv, if_pos, if_neg, aStore, frz, AV.flat, ↓reduceIte, ne_eq, reduceCtorEq, Int.reduceToNat, Nat.reduceEqDiff, Nat.reduceAdd, Nat.reduceSub, Nat.reduceMul, Int.reduceAdd, Int.reduceMul, Int.reduceSub, Int.reduceLT, Int.reduceLE, Int.reduceEq, Int.reduceNe, Nat.reduceLeDiff, Nat.reduceLT, Int.reduceNeg, Nat.reducePow, Nat.reduceMod, ByteArray.size, boo, entV, entL, q3, r0, r1]))
    refine goC_p _ (.inl ⟨rfl, hca.two e.link l1⟩) ?_
    have ez : Z = !(hasB e.link 0 || hasB e.link 10) := by rw [hZ]; simp
    cases h2 : (hasB e.link 0 || hasB e.link 10)
    · rw [h2] at ez
      subst ez
      repeat (first | refine wA ?_ | refine wB ?_ | refine wC rfl ?_ | refine wD rfl ?_ | refine wE ?_ | refine wF (by omega) ?_ | ((first | refine wG ?_ | refine wH ?_ | refine wI ?_ | refine wJ ?_ | refine wK ?_ | refine wL ?_); simp (disch := omega) only [wP, wZ, undef, UInt8.reduceToNat, Nat.reduceOr, Nat.reduceAnd, Nat.reduceXor, Nat.reduceDiv, if_pos, if_neg, aStore, frz, AV.flat, ↓reduceIte, ne_eq, reduceCtorEq, Int.reduceToNat, Nat.reduceEqDiff, Nat.reduceAdd, Nat.reduceSub, Nat.reduceMul, Int.reduceAdd, Int.reduceMul, Int.reduceSub, Int.reduceLT, Int.reduceLE, Int.reduceEq, Int.reduceNe, Nat.reduceLeDiff, Nat.reduceLT, Int.reduceNeg, Nat.reducePow, Nat.reduceMod, ByteArray.size, boo, q3, r0, r1]))
    · rw [h2] at ez
      subst ez
      repeat (first | refine wA ?_ | refine wB ?_ | refine wC rfl ?_ | refine wD rfl ?_ | refine wE ?_ | refine wF (by omega) ?_ | ((first | refine wG ?_ | refine wH ?_ | refine wI ?_ | refine wJ ?_ | refine wK ?_ | refine wL ?_); simp (disch := omega) only [wP, wZ, undef, UInt8.reduceToNat, Nat.reduceOr, Nat.reduceAnd, Nat.reduceXor, Nat.reduceDiv, if_pos, if_neg, aStore, frz, AV.flat, ↓reduceIte, ne_eq, reduceCtorEq, Int.reduceToNat, Nat.reduceEqDiff, Nat.reduceAdd, Nat.reduceSub, Nat.reduceMul, Int.reduceAdd, Int.reduceMul, Int.reduceSub, Int.reduceLT, Int.reduceLE, Int.reduceEq, Int.reduceNe, Nat.reduceLeDiff, Nat.reduceLT, Int.reduceNeg, Nat.reducePow, Nat.reduceMod, ByteArray.size, boo, q3, r0, r1]))
  have q3 : decide (e.kind = 3) = false := decide_eq_false k3
  rw [if_neg k3] at hZ
  by_cases k4 : e.kind = 4
  · have q4 : decide (e.kind = 4) = true := decide_eq_true k4
    rw [if_pos k4] at hZ
    repeat (first | refine wA ?_ | refine wB ?_ | refine wC rfl ?_ | refine wD rfl ?_ | refine wE ?_ | refine wF (by omega) ?_ | ((first | refine wG ?_ | refine wH ?_ | refine wI ?_ | refine wJ ?_ | refine wK ?_ | refine wL ?_); simp (disch := omega) only [wP, wZ, undef, UInt8.reduceToNat, Nat.reduceOr, Nat.reduceAnd, Nat.reduceXor, Nat.reduceDiv, if_pos, if_neg, aStore, frz, AV.flat, ↓reduceIte, ne_eq, reduceCtorEq, Int.reduceToNat, Nat.reduceEqDiff, Nat.reduceAdd, Nat.reduceSub, Nat.reduceMul, Int.reduceAdd, Int.reduceMul, Int.reduceSub, Int.reduceLT, Int.reduceLE, Int.reduceEq, Int.reduceNe, Nat.reduceLeDiff, Nat.reduceLT, Int.reduceNeg, Nat.reducePow, Nat.reduceMod, ByteArray.size, boo, entV, entL, q3, q4]))
    refine goC_p _ (.inl ⟨rfl, Path_c e.link s4⟩) ?_
    cases l1 : pathOk e.link
    · rw [l1, Bool.false_and] at hZ
      subst hZ
      repeat (first | refine wA ?_ | refine wB ?_ | refine wC rfl ?_ | refine wD rfl ?_ | refine wE ?_ | refine wF (by omega) ?_ | ((first | refine wG ?_ | refine wH ?_ | refine wI ?_ | refine wJ ?_ | refine wK ?_ | refine wL ?_); simp (disch := omega) only [wP, wZ, undef, UInt8.reduceToNat, Nat.reduceOr, Nat.reduceAnd, Nat.reduceXor, Nat.reduceDiv, if_pos, if_neg, aStore, frz, AV.flat, ↓reduceIte, ne_eq, reduceCtorEq, Int.reduceToNat, Nat.reduceEqDiff, Nat.reduceAdd, Nat.reduceSub, Nat.reduceMul, Int.reduceAdd, Int.reduceMul, Int.reduceSub, Int.reduceLT, Int.reduceLE, Int.reduceEq, Int.reduceNe, Nat.reduceLeDiff, Nat.reduceLT, Int.reduceNeg, Nat.reducePow, Nat.reduceMod, ByteArray.size, boo, entL, q3, q4]))
    rw [l1, Bool.true_and] at hZ
    by_cases l2 : e.link = e.path
    · have r2 : decide (e.link = e.path) = true := decide_eq_true l2
      rw [r2, Bool.not_true] at hZ
      subst hZ
      repeat (first | refine wA ?_ | refine wB ?_ | refine wC rfl ?_ | refine wD rfl ?_ | refine wE ?_ | refine wF (by omega) ?_ | ((first | refine wG ?_ | refine wH ?_ | refine wI ?_ | refine wJ ?_ | refine wK ?_ | refine wL ?_); simp (disch := omega) only [wP, wZ, undef, UInt8.reduceToNat, Nat.reduceOr, Nat.reduceAnd, Nat.reduceXor, Nat.reduceDiv, if_pos, if_neg, aStore, frz, AV.flat, ↓reduceIte, ne_eq, reduceCtorEq, Int.reduceToNat, Nat.reduceEqDiff, Nat.reduceAdd, Nat.reduceSub, Nat.reduceMul, Int.reduceAdd, Int.reduceMul, Int.reduceSub, Int.reduceLT, Int.reduceLE, Int.reduceEq, Int.reduceNe, Nat.reduceLeDiff, Nat.reduceLT, Int.reduceNeg, Nat.reducePow, Nat.reduceMod, ByteArray.size, boo, entL, q3, q4, r2]))
    have r2 : decide (e.link = e.path) = false := decide_eq_false l2
    rw [r2, Bool.not_false] at hZ
    subst hZ
    repeat (first | refine wA ?_ | refine wB ?_ | refine wC rfl ?_ | refine wD rfl ?_ | refine wE ?_ | refine wF (by omega) ?_ | ((first | refine wG ?_ | refine wH ?_ | refine wI ?_ | refine wJ ?_ | refine wK ?_ | refine wL ?_); simp (disch := omega) only [wP, wZ, undef, UInt8.reduceToNat, Nat.reduceOr, Nat.reduceAnd, Nat.reduceXor, Nat.reduceDiv, if_pos, if_neg, aStore, frz, AV.flat, ↓reduceIte, ne_eq, reduceCtorEq, Int.reduceToNat, Nat.reduceEqDiff, Nat.reduceAdd, Nat.reduceSub, Nat.reduceMul, Int.reduceAdd, Int.reduceMul, Int.reduceSub, Int.reduceLT, Int.reduceLE, Int.reduceEq, Int.reduceNe, Nat.reduceLeDiff, Nat.reduceLT, Int.reduceNeg, Nat.reducePow, Nat.reduceMod, ByteArray.size, boo, entL, q3, q4, r2]))
  have q4 : decide (e.kind = 4) = false := decide_eq_false k4
  rw [if_neg k4] at hZ
  subst hZ
  repeat (first | refine wA ?_ | refine wB ?_ | refine wC rfl ?_ | refine wD rfl ?_ | refine wE ?_ | refine wF (by omega) ?_ | ((first | refine wG ?_ | refine wH ?_ | refine wI ?_ | refine wJ ?_ | refine wK ?_ | refine wL ?_); simp (disch := omega) only [wP, wZ, undef, UInt8.reduceToNat, Nat.reduceOr, Nat.reduceAnd, Nat.reduceXor, Nat.reduceDiv, if_pos, if_neg, aStore, frz, AV.flat, ↓reduceIte, ne_eq, reduceCtorEq, Int.reduceToNat, Nat.reduceEqDiff, Nat.reduceAdd, Nat.reduceSub, Nat.reduceMul, Int.reduceAdd, Int.reduceMul, Int.reduceSub, Int.reduceLT, Int.reduceLE, Int.reduceEq, Int.reduceNe, Nat.reduceLeDiff, Nat.reduceLT, Int.reduceNeg, Nat.reducePow, Nat.reduceMod, ByteArray.size, boo, entV, entL, q3, q4]))
set_option maxHeartbeats 4000000 in
set_option maxRecDepth 100000 in
theorem Check_c [Tabs Tryd.prog] (hca : CaOk) (e : Ent) (he : entS e) : Con Tryd.prog n_entry_Check [entV e] (int (chk e)) := by
  obtain ⟨s1, s2, s3, s4, s5⟩ := id he
  refine Con.of' mix Tryd.func17 rfl Tryd.ntmps17 e_entry_Check r_entry_Check (by simp) free_entV rfl ?_
  unfold s_entry_Check
  obtain ⟨Z, hZ⟩ : ∃ Z, Z = chk e := ⟨_, rfl⟩
  rw [← hZ]
  rw [chk] at hZ
  repeat (first | refine wA ?_ | refine wB ?_ | refine wC rfl ?_ | refine wD rfl ?_ | refine wE ?_ | refine wF (by omega) ?_ | ((first | refine wG ?_ | refine wH ?_ | refine wI ?_ | refine wJ ?_ | refine wK ?_ | refine wL ?_); simp (disch := omega) only [wP, wZ, undef, UInt8.reduceToNat, Nat.reduceOr, Nat.reduceAnd, Nat.reduceXor, Nat.reduceDiv, if_pos, if_neg, aStore, frz, AV.flat, ↓reduceIte, ne_eq, reduceCtorEq, Int.reduceToNat, Nat.reduceEqDiff, Nat.reduceAdd, Nat.reduceSub, Nat.reduceMul, Int.reduceAdd, Int.reduceMul, Int.reduceSub, Int.reduceLT, Int.reduceLE, Int.reduceEq, Int.reduceNe, Nat.reduceLeDiff, Nat.reduceLT, Int.reduceNeg, Nat.reducePow, Nat.reduceMod, ByteArray.size, entV, entL]))
  refine goC_p _ (.inl ⟨rfl, Path_c e.path s1⟩) ?_
  cases c1 : pathOk e.path
  · rw [c1, if_neg (by decide)] at hZ
    subst hZ
    repeat (first | refine wA ?_ | refine wB ?_ | refine wC rfl ?_ | refine wD rfl ?_ | refine wE ?_ | refine wF (by omega) ?_ | ((first | refine wG ?_ | refine wH ?_ | refine wI ?_ | refine wJ ?_ | refine wK ?_ | refine wL ?_); simp (disch := omega) only [wP, wZ, undef, UInt8.reduceToNat, Nat.reduceOr, Nat.reduceAnd, Nat.reduceXor, Nat.reduceDiv, if_pos, if_neg, aStore, frz, AV.flat, ↓reduceIte, ne_eq, reduceCtorEq, Int.reduceToNat, Nat.reduceEqDiff, Nat.reduceAdd, Nat.reduceSub, Nat.reduceMul, Int.reduceAdd, Int.reduceMul, Int.reduceSub, Int.reduceLT, Int.reduceLE, Int.reduceEq, Int.reduceNe, Nat.reduceLeDiff, Nat.reduceLT, Int.reduceNeg, Nat.reducePow, Nat.reduceMod, ByteArray.size, boo]))
  rw [if_pos c1] at hZ
  by_cases kk : e.kind < 1
  · have dk : decide (e.kind < 1) = true := decide_eq_true kk
    have hn : kindOk e = false := Bool.eq_false_iff.2 (fun h => by simp only [kindOk, Bool.and_eq_true, decide_eq_true_eq] at h; omega)
    rw [hn, if_neg (by decide)] at hZ
    subst hZ
    repeat (first | refine wA ?_ | refine wB ?_ | refine wC rfl ?_ | refine wD rfl ?_ | refine wE ?_ | refine wF (by omega) ?_ | ((first | refine wG ?_ | refine wH ?_ | refine wI ?_ | refine wJ ?_ | refine wK ?_ | refine wL ?_); simp (disch := omega) only [wP, wZ, undef, UInt8.reduceToNat, Nat.reduceOr, Nat.reduceAnd, Nat.reduceXor, Nat.reduceDiv, if_pos, if_neg, aStore, frz, AV.flat, ↓reduceIte, ne_eq, reduceCtorEq, Int.reduceToNat, Nat.reduceEqDiff, Nat.reduceAdd, Nat.reduceSub, Nat.reduceMul, Int.reduceAdd, Int.reduceMul, Int.reduceSub, Int.reduceLT, Int.reduceLE, Int.reduceEq, Int.reduceNe, Nat.reduceLeDiff, Nat.reduceLT, Int.reduceNeg, Nat.reducePow, Nat.reduceMod, ByteArray.size, boo, dk]))
  have dk : decide (e.kind < 1) = false := decide_eq_false kk
  by_cases kl : 4 < e.kind
  · have dl : decide (4 < e.kind) = true := decide_eq_true kl
    have hn : kindOk e = false := Bool.eq_false_iff.2 (fun h => by simp only [kindOk, Bool.and_eq_true, decide_eq_true_eq] at h; omega)
    rw [hn, if_neg (by decide)] at hZ
    subst hZ
    repeat (first | refine wA ?_ | refine wB ?_ | refine wC rfl ?_ | refine wD rfl ?_ | refine wE ?_ | refine wF (by omega) ?_ | ((first | refine wG ?_ | refine wH ?_ | refine wI ?_ | refine wJ ?_ | refine wK ?_ | refine wL ?_); simp (disch := omega) only [wP, wZ, undef, UInt8.reduceToNat, Nat.reduceOr, Nat.reduceAnd, Nat.reduceXor, Nat.reduceDiv, if_pos, if_neg, aStore, frz, AV.flat, ↓reduceIte, ne_eq, reduceCtorEq, Int.reduceToNat, Nat.reduceEqDiff, Nat.reduceAdd, Nat.reduceSub, Nat.reduceMul, Int.reduceAdd, Int.reduceMul, Int.reduceSub, Int.reduceLT, Int.reduceLE, Int.reduceEq, Int.reduceNe, Nat.reduceLeDiff, Nat.reduceLT, Int.reduceNeg, Nat.reducePow, Nat.reduceMod, ByteArray.size, boo, dk, dl]))
  have dl : decide (4 < e.kind) = false := decide_eq_false kl
  have hnk : kindOk e = true := by simp only [kindOk, Bool.and_eq_true, decide_eq_true_eq]; omega
  rw [if_pos hnk] at hZ
  repeat (first | refine wA ?_ | refine wB ?_ | refine wC rfl ?_ | refine wD rfl ?_ | refine wE ?_ | refine wF (by omega) ?_ | ((first | refine wG ?_ | refine wH ?_ | refine wI ?_ | refine wJ ?_ | refine wK ?_ | refine wL ?_); simp (disch := omega) only [wP, wZ, undef, UInt8.reduceToNat, Nat.reduceOr, Nat.reduceAnd, Nat.reduceXor, Nat.reduceDiv, if_pos, if_neg, aStore, frz, AV.flat, ↓reduceIte, ne_eq, reduceCtorEq, Int.reduceToNat, Nat.reduceEqDiff, Nat.reduceAdd, Nat.reduceSub, Nat.reduceMul, Int.reduceAdd, Int.reduceMul, Int.reduceSub, Int.reduceLT, Int.reduceLE, Int.reduceEq, Int.reduceNe, Nat.reduceLeDiff, Nat.reduceLT, Int.reduceNeg, Nat.reducePow, Nat.reduceMod, ByteArray.size, boo, dk, dl, entL]))
  refine goC_p _ (.inl ⟨free_entV, numbersFit_c e⟩) ?_
  cases c2 : numFit e
  · rw [c2, if_neg (by decide)] at hZ
    subst hZ
    repeat (first | refine wA ?_ | refine wB ?_ | refine wC rfl ?_ | refine wD rfl ?_ | refine wE ?_ | refine wF (by omega) ?_ | ((first | refine wG ?_ | refine wH ?_ | refine wI ?_ | refine wJ ?_ | refine wK ?_ | refine wL ?_); simp (disch := omega) only [wP, wZ, undef, UInt8.reduceToNat, Nat.reduceOr, Nat.reduceAnd, Nat.reduceXor, Nat.reduceDiv, if_pos, if_neg, aStore, frz, AV.flat, ↓reduceIte, ne_eq, reduceCtorEq, Int.reduceToNat, Nat.reduceEqDiff, Nat.reduceAdd, Nat.reduceSub, Nat.reduceMul, Int.reduceAdd, Int.reduceMul, Int.reduceSub, Int.reduceLT, Int.reduceLE, Int.reduceEq, Int.reduceNe, Nat.reduceLeDiff, Nat.reduceLT, Int.reduceNeg, Nat.reducePow, Nat.reduceMod, ByteArray.size, boo]))
  rw [if_pos c2] at hZ
  repeat (first | refine wA ?_ | refine wB ?_ | refine wC rfl ?_ | refine wD rfl ?_ | refine wE ?_ | refine wF (by omega) ?_ | ((first | refine wG ?_ | refine wH ?_ | refine wI ?_ | refine wJ ?_ | refine wK ?_ | refine wL ?_); simp (disch := omega) only [wP, wZ, undef, UInt8.reduceToNat, Nat.reduceOr, Nat.reduceAnd, Nat.reduceXor, Nat.reduceDiv, if_pos, if_neg, aStore, frz, AV.flat, ↓reduceIte, ne_eq, reduceCtorEq, Int.reduceToNat, Nat.reduceEqDiff, Nat.reduceAdd, Nat.reduceSub, Nat.reduceMul, Int.reduceAdd, Int.reduceMul, Int.reduceSub, Int.reduceLT, Int.reduceLE, Int.reduceEq, Int.reduceNe, Nat.reduceLeDiff, Nat.reduceLT, Int.reduceNeg, Nat.reducePow, Nat.reduceMod, ByteArray.size, boo, entL]))
  refine goC_p _ (.inl ⟨rfl, isOwner_c hca e.owner s2⟩) ?_
  cases c3 : ownOk e.owner
  · rw [c3, Bool.false_and, if_neg (by decide)] at hZ
    subst hZ
    repeat (first | refine wA ?_ | refine wB ?_ | refine wC rfl ?_ | refine wD rfl ?_ | refine wE ?_ | refine wF (by omega) ?_ | ((first | refine wG ?_ | refine wH ?_ | refine wI ?_ | refine wJ ?_ | refine wK ?_ | refine wL ?_); simp (disch := omega) only [wP, wZ, undef, UInt8.reduceToNat, Nat.reduceOr, Nat.reduceAnd, Nat.reduceXor, Nat.reduceDiv, if_pos, if_neg, aStore, frz, AV.flat, ↓reduceIte, ne_eq, reduceCtorEq, Int.reduceToNat, Nat.reduceEqDiff, Nat.reduceAdd, Nat.reduceSub, Nat.reduceMul, Int.reduceAdd, Int.reduceMul, Int.reduceSub, Int.reduceLT, Int.reduceLE, Int.reduceEq, Int.reduceNe, Nat.reduceLeDiff, Nat.reduceLT, Int.reduceNeg, Nat.reducePow, Nat.reduceMod, ByteArray.size, boo]))
  rw [c3, Bool.true_and] at hZ
  repeat (first | refine wA ?_ | refine wB ?_ | refine wC rfl ?_ | refine wD rfl ?_ | refine wE ?_ | refine wF (by omega) ?_ | ((first | refine wG ?_ | refine wH ?_ | refine wI ?_ | refine wJ ?_ | refine wK ?_ | refine wL ?_); simp (disch := omega) only [wP, wZ, undef, UInt8.reduceToNat, Nat.reduceOr, Nat.reduceAnd, Nat.reduceXor, Nat.reduceDiv, if_pos, if_neg, aStore, frz, AV.flat, ↓reduceIte, ne_eq, reduceCtorEq, Int.reduceToNat, Nat.reduceEqDiff, Nat.reduceAdd, Nat.reduceSub, Nat.reduceMul, Int.reduceAdd, Int.reduceMul, Int.reduceSub, Int.reduceLT, Int.reduceLE, Int.reduceEq, Int.reduceNe, Nat.reduceLeDiff, Nat.reduceLT, Int.reduceNeg, Nat.reducePow, Nat.reduceMod, ByteArray.size, boo, entL]))
  refine goC_p _ (.inl ⟨rfl, isOwner_c hca e.group s3⟩) ?_
  cases c4 : ownOk e.group
  · rw [c4, if_neg (by decide)] at hZ
    subst hZ
    repeat (first | refine wA ?_ | refine wB ?_ | refine wC rfl ?_ | refine wD rfl ?_ | refine wE ?_ | refine wF (by omega) ?_ | ((first | refine wG ?_ | refine wH ?_ | refine wI ?_ | refine wJ ?_ | refine wK ?_ | refine wL ?_); simp (disch := omega) only [wP, wZ, undef, UInt8.reduceToNat, Nat.reduceOr, Nat.reduceAnd, Nat.reduceXor, Nat.reduceDiv, if_pos, if_neg, aStore, frz, AV.flat, ↓reduceIte, ne_eq, reduceCtorEq, Int.reduceToNat, Nat.reduceEqDiff, Nat.reduceAdd, Nat.reduceSub, Nat.reduceMul, Int.reduceAdd, Int.reduceMul, Int.reduceSub, Int.reduceLT, Int.reduceLE, Int.reduceEq, Int.reduceNe, Nat.reduceLeDiff, Nat.reduceLT, Int.reduceNeg, Nat.reducePow, Nat.reduceMod, ByteArray.size, boo]))
  rw [if_pos c4] at hZ
  repeat (first | refine wA ?_ | refine wB ?_ | refine wC rfl ?_ | refine wD rfl ?_ | refine wE ?_ | refine wF (by omega) ?_ | ((first | refine wG ?_ | refine wH ?_ | refine wI ?_ | refine wJ ?_ | refine wK ?_ | refine wL ?_); simp (disch := omega) only [wP, wZ, undef, UInt8.reduceToNat, Nat.reduceOr, Nat.reduceAnd, Nat.reduceXor, Nat.reduceDiv, if_pos, if_neg, aStore, frz, AV.flat, ↓reduceIte, ne_eq, reduceCtorEq, Int.reduceToNat, Nat.reduceEqDiff, Nat.reduceAdd, Nat.reduceSub, Nat.reduceMul, Int.reduceAdd, Int.reduceMul, Int.reduceSub, Int.reduceLT, Int.reduceLE, Int.reduceEq, Int.reduceNe, Nat.reduceLeDiff, Nat.reduceLT, Int.reduceNeg, Nat.reducePow, Nat.reduceMod, ByteArray.size, boo, entL]))
  refine goC_p _ (.inl ⟨free_entV, pointsRight_c hca e he⟩) ?_
  cases c5 : linkOk e
  · rw [c5, if_neg (by decide)] at hZ
    subst hZ
    repeat (first | refine wA ?_ | refine wB ?_ | refine wC rfl ?_ | refine wD rfl ?_ | refine wE ?_ | refine wF (by omega) ?_ | ((first | refine wG ?_ | refine wH ?_ | refine wI ?_ | refine wJ ?_ | refine wK ?_ | refine wL ?_); simp (disch := omega) only [wP, wZ, undef, UInt8.reduceToNat, Nat.reduceOr, Nat.reduceAnd, Nat.reduceXor, Nat.reduceDiv, if_pos, if_neg, aStore, frz, AV.flat, ↓reduceIte, ne_eq, reduceCtorEq, Int.reduceToNat, Nat.reduceEqDiff, Nat.reduceAdd, Nat.reduceSub, Nat.reduceMul, Int.reduceAdd, Int.reduceMul, Int.reduceSub, Int.reduceLT, Int.reduceLE, Int.reduceEq, Int.reduceNe, Nat.reduceLeDiff, Nat.reduceLT, Int.reduceNeg, Nat.reducePow, Nat.reduceMod, ByteArray.size, boo]))
  rw [if_pos c5] at hZ
  by_cases k1 : e.kind = 1
  case neg =>
    have q1 : decide (e.kind = 1) = false := decide_eq_false k1
    by_cases m0 : e.data.length = 0
    case neg =>
      have v0 : decide ((0 : Int) < (e.data.length : Int)) = true := decide_eq_true (by omega)
      have hn : argOk e = false := by rw [argOk, q1, decide_eq_false m0]; simp
      rw [hn, if_neg (by decide)] at hZ
      subst hZ
      repeat (first | refine wA ?_ | refine wB ?_ | refine wC rfl ?_ | refine wD rfl ?_ | refine wE ?_ | refine wF (by omega) ?_ | ((first | refine wG ?_ | refine wH ?_ | refine wI ?_ | refine wJ ?_ | refine wK ?_ | refine wL ?_); simp (disch := omega) only [wP, wZ, undef, UInt8.reduceToNat, Nat.reduceOr, Nat.reduceAnd, Nat.reduceXor, Nat.reduceDiv, if_pos, if_neg, aStore, frz, AV.flat, ↓reduceIte, ne_eq, reduceCtorEq, Int.reduceToNat, Nat.reduceEqDiff, Nat.reduceAdd, Nat.reduceSub, Nat.reduceMul, Int.reduceAdd, Int.reduceMul, Int.reduceSub, Int.reduceLT, Int.reduceLE, Int.reduceEq, Int.reduceNe, Nat.reduceLeDiff, Nat.reduceLT, Int.reduceNeg, Nat.reducePow, Nat.reduceMod, ByteArray.size, boo, entL, q1, v0, List.length_map]))
    have v0 : decide ((0 : Int) < (e.data.length : Int)) = false := decide_eq_false (by omega)
    have v1 : decide ((1048576 : Int) < (e.data.length : Int)) = false := decide_eq_false (by omega)
    by_cases k3 : e.kind = 3
    · have q3 : decide (e.kind = 3) = true := decide_eq_true k3
      have hn : argOk e = true := by rw [argOk, decide_eq_true m0, decide_eq_true (by omega : 3 ≤ e.kind)]; simp
      rw [if_pos hn, if_pos (by omega)] at hZ
      subst hZ
      repeat (first | refine wA ?_ | refine wB ?_ | refine wC rfl ?_ | refine wD rfl ?_ | refine wE ?_ | refine wF (by omega) ?_ | ((first | refine wG ?_ | refine wH ?_ | refine wI ?_ | refine wJ ?_ | refine wK ?_ | refine wL ?_); simp (disch := omega) only [wP, wZ, undef, UInt8.reduceToNat, Nat.reduceOr, Nat.reduceAnd, Nat.reduceXor, Nat.reduceDiv, if_pos, if_neg, aStore, frz, AV.flat, ↓reduceIte, ne_eq, reduceCtorEq, Int.reduceToNat, Nat.reduceEqDiff, Nat.reduceAdd, Nat.reduceSub, Nat.reduceMul, Int.reduceAdd, Int.reduceMul, Int.reduceSub, Int.reduceLT, Int.reduceLE, Int.reduceEq, Int.reduceNe, Nat.reduceLeDiff, Nat.reduceLT, Int.reduceNeg, Nat.reducePow, Nat.reduceMod, ByteArray.size, boo, entL, q1, q3, v0, v1, List.length_map]))
    have q3 : decide (e.kind = 3) = false := decide_eq_false k3
    by_cases k4 : e.kind = 4
    · have q4 : decide (e.kind = 4) = true := decide_eq_true k4
      have hn : argOk e = true := by rw [argOk, decide_eq_true m0, decide_eq_true (by omega : 3 ≤ e.kind)]; simp
      rw [if_pos hn, if_pos (by omega)] at hZ
      subst hZ
      repeat (first | refine wA ?_ | refine wB ?_ | refine wC rfl ?_ | refine wD rfl ?_ | refine wE ?_ | refine wF (by omega) ?_ | ((first | refine wG ?_ | refine wH ?_ | refine wI ?_ | refine wJ ?_ | refine wK ?_ | refine wL ?_); simp (disch := omega) only [wP, wZ, undef, UInt8.reduceToNat, Nat.reduceOr, Nat.reduceAnd, Nat.reduceXor, Nat.reduceDiv, if_pos, if_neg, aStore, frz, AV.flat, ↓reduceIte, ne_eq, reduceCtorEq, Int.reduceToNat, Nat.reduceEqDiff, Nat.reduceAdd, Nat.reduceSub, Nat.reduceMul, Int.reduceAdd, Int.reduceMul, Int.reduceSub, Int.reduceLT, Int.reduceLE, Int.reduceEq, Int.reduceNe, Nat.reduceLeDiff, Nat.reduceLT, Int.reduceNeg, Nat.reducePow, Nat.reduceMod, ByteArray.size, boo, entL, q1, q3, q4, v0, v1, List.length_map]))
    have q4 : decide (e.kind = 4) = false := decide_eq_false k4
    by_cases l0 : e.link = []
    · have r0 : decide (e.link = []) = true := decide_eq_true l0
      have hn : argOk e = true := by rw [argOk, decide_eq_true m0, r0]; simp
      rw [if_pos hn, if_pos (by omega)] at hZ
      subst hZ
      repeat (first | refine wA ?_ | refine wB ?_ | refine wC rfl ?_ | refine wD rfl ?_ | refine wE ?_ | refine wF (by omega) ?_ | ((first | refine wG ?_ | refine wH ?_ | refine wI ?_ | refine wJ ?_ | refine wK ?_ | refine wL ?_); simp (disch := omega) only [wP, wZ, undef, UInt8.reduceToNat, Nat.reduceOr, Nat.reduceAnd, Nat.reduceXor, Nat.reduceDiv, if_pos, if_neg, aStore, frz, AV.flat, ↓reduceIte, ne_eq, reduceCtorEq, Int.reduceToNat, Nat.reduceEqDiff, Nat.reduceAdd, Nat.reduceSub, Nat.reduceMul, Int.reduceAdd, Int.reduceMul, Int.reduceSub, Int.reduceLT, Int.reduceLE, Int.reduceEq, Int.reduceNe, Nat.reduceLeDiff, Nat.reduceLT, Int.reduceNeg, Nat.reducePow, Nat.reduceMod, ByteArray.size, boo, entL, q1, q3, q4, r0, v0, v1, List.length_map]))
    · have r0 : decide (e.link = []) = false := decide_eq_false l0
      have hn : argOk e = false := by rw [argOk, r0, decide_eq_false (by omega : ¬ 3 ≤ e.kind)]; rfl
      rw [hn, if_neg (by decide)] at hZ
      subst hZ
      repeat (first | refine wA ?_ | refine wB ?_ | refine wC rfl ?_ | refine wD rfl ?_ | refine wE ?_ | refine wF (by omega) ?_ | ((first | refine wG ?_ | refine wH ?_ | refine wI ?_ | refine wJ ?_ | refine wK ?_ | refine wL ?_); simp (disch := omega) only [wP, wZ, undef, UInt8.reduceToNat, Nat.reduceOr, Nat.reduceAnd, Nat.reduceXor, Nat.reduceDiv, if_pos, if_neg, aStore, frz, AV.flat, ↓reduceIte, ne_eq, reduceCtorEq, Int.reduceToNat, Nat.reduceEqDiff, Nat.reduceAdd, Nat.reduceSub, Nat.reduceMul, Int.reduceAdd, Int.reduceMul, Int.reduceSub, Int.reduceLT, Int.reduceLE, Int.reduceEq, Int.reduceNe, Nat.reduceLeDiff, Nat.reduceLT, Int.reduceNeg, Nat.reducePow, Nat.reduceMod, ByteArray.size, boo, entL, q1, q3, q4, r0, v0, v1, List.length_map]))
  have q1 : decide (e.kind = 1) = true := decide_eq_true k1
  have q3 : decide (e.kind = 3) = false := decide_eq_false (by omega)
  have q4 : decide (e.kind = 4) = false := decide_eq_false (by omega)
  by_cases l0 : e.link = []
  case neg =>
    have r0 : decide (e.link = []) = false := decide_eq_false l0
    have hn : argOk e = false := by rw [argOk, r0, decide_eq_false (by omega : ¬ 3 ≤ e.kind)]; rfl
    rw [hn, if_neg (by decide)] at hZ
    subst hZ
    repeat (first | refine wA ?_ | refine wB ?_ | refine wC rfl ?_ | refine wD rfl ?_ | refine wE ?_ | refine wF (by omega) ?_ | ((first | refine wG ?_ | refine wH ?_ | refine wI ?_ | refine wJ ?_ | refine wK ?_ | refine wL ?_); simp (disch := omega) only [wP, wZ, undef, UInt8.reduceToNat, Nat.reduceOr, Nat.reduceAnd, Nat.reduceXor, Nat.reduceDiv, if_pos, if_neg, aStore, frz, AV.flat, ↓reduceIte, ne_eq, reduceCtorEq, Int.reduceToNat, Nat.reduceEqDiff, Nat.reduceAdd, Nat.reduceSub, Nat.reduceMul, Int.reduceAdd, Int.reduceMul, Int.reduceSub, Int.reduceLT, Int.reduceLE, Int.reduceEq, Int.reduceNe, Nat.reduceLeDiff, Nat.reduceLT, Int.reduceNeg, Nat.reducePow, Nat.reduceMod, ByteArray.size, boo, entL, q1, q3, q4, r0, List.length_map]))
  have r0 : decide (e.link = []) = true := decide_eq_true l0
  have hn : argOk e = true := by rw [argOk, r0, q1]; simp
  rw [if_pos hn] at hZ
  by_cases m1 : e.data.length ≤ 1048576
  · have v1 : decide ((1048576 : Int) < (e.data.length : Int)) = false := decide_eq_false (by omega)
    rw [if_pos m1] at hZ
    subst hZ
    repeat (first | refine wA ?_ | refine wB ?_ | refine wC rfl ?_ | refine wD rfl ?_ | refine wE ?_ | refine wF (by omega) ?_ | ((first | refine wG ?_ | refine wH ?_ | refine wI ?_ | refine wJ ?_ | refine wK ?_ | refine wL ?_); simp (disch := omega) only [wP, wZ, undef, UInt8.reduceToNat, Nat.reduceOr, Nat.reduceAnd, Nat.reduceXor, Nat.reduceDiv, if_pos, if_neg, aStore, frz, AV.flat, ↓reduceIte, ne_eq, reduceCtorEq, Int.reduceToNat, Nat.reduceEqDiff, Nat.reduceAdd, Nat.reduceSub, Nat.reduceMul, Int.reduceAdd, Int.reduceMul, Int.reduceSub, Int.reduceLT, Int.reduceLE, Int.reduceEq, Int.reduceNe, Nat.reduceLeDiff, Nat.reduceLT, Int.reduceNeg, Nat.reducePow, Nat.reduceMod, ByteArray.size, boo, entL, q1, q3, q4, r0, v1, List.length_map]))
  · have v1 : decide ((1048576 : Int) < (e.data.length : Int)) = true := decide_eq_true (by omega)
    rw [if_neg m1] at hZ
    subst hZ
    repeat (first | refine wA ?_ | refine wB ?_ | refine wC rfl ?_ | refine wD rfl ?_ | refine wE ?_ | refine wF (by omega) ?_ | ((first | refine wG ?_ | refine wH ?_ | refine wI ?_ | refine wJ ?_ | refine wK ?_ | refine wL ?_); simp (disch := omega) only [wP, wZ, undef, UInt8.reduceToNat, Nat.reduceOr, Nat.reduceAnd, Nat.reduceXor, Nat.reduceDiv, if_pos, if_neg, aStore, frz, AV.flat, ↓reduceIte, ne_eq, reduceCtorEq, Int.reduceToNat, Nat.reduceEqDiff, Nat.reduceAdd, Nat.reduceSub, Nat.reduceMul, Int.reduceAdd, Int.reduceMul, Int.reduceSub, Int.reduceLT, Int.reduceLE, Int.reduceEq, Int.reduceNe, Nat.reduceLeDiff, Nat.reduceLT, Int.reduceNeg, Nat.reducePow, Nat.reduceMod, ByteArray.size, boo, entL, q1, q3, q4, r0, v1, List.length_map]))
end Go.Proofs.YtbmmdkbinlnogaaDoor.Aw
namespace Go.Proofs
open Go.Shelf
def Tryd.sortEnt_ren : Go.Shelf.Ren := ⟨fun | 6 => 37 | 15 => 57 | 14 => 56 | 28 => 75 | 29 => 76 | 20 => 67 | 21 => 68 | 22 => 69 | 23 => 70 | 24 => 71 | 25 => 72 | 26 => 73 | 27 => 74 | 46 => 84 | 47 => 85 | 48 => 86 | 49 => 87 | 50 => 88 | 57 => 93 | n => n, fun | 22 => 29 | 24 => 28 | 25 => 61 | 3 => 3 | 39 => 77 | 0 => 0 | 53 => 93 | 55 => 95 | 4 => 4 | 46 => 87 | 45 => 86 | 50 => 80 | 5 => 5 | 9 => 9 | 66 => 102 | 70 => 106 | 76 => 115 | 77 => 116 | n => n, fun | n => n⟩
theorem Tryd.sortEnt : Go.Proofs.SlLaysF0.n6 Tryd.prog Tryd.sortEnt_ren := {
  mixed := by kernel_rfl
  f6 := ⟨Tryd.f37.name, by decide, Tryd.func37.trans (congrArg some (by kernel_rfl))⟩
  f14 := ⟨Tryd.f56.name, by decide, Tryd.func56.trans (congrArg some (by kernel_rfl))⟩
  f15 := Tryd.func57.trans (congrArg some (by kernel_rfl))
  f20 := ⟨Tryd.f67.name, by decide, Tryd.func67.trans (congrArg some (by kernel_rfl))⟩
  f21 := ⟨Tryd.f68.name, by decide, Tryd.func68.trans (congrArg some (by kernel_rfl))⟩
  f22 := ⟨Tryd.f69.name, by decide, Tryd.func69.trans (congrArg some (by kernel_rfl))⟩
  f23 := ⟨Tryd.f70.name, by decide, Tryd.func70.trans (congrArg some (by kernel_rfl))⟩
  f24 := ⟨Tryd.f71.name, by decide, Tryd.func71.trans (congrArg some (by kernel_rfl))⟩
  f25 := ⟨Tryd.f72.name, by decide, Tryd.func72.trans (congrArg some (by kernel_rfl))⟩
  f26 := ⟨Tryd.f73.name, by decide, Tryd.func73.trans (congrArg some (by kernel_rfl))⟩
  f27 := ⟨Tryd.f74.name, by decide, Tryd.func74.trans (congrArg some (by kernel_rfl))⟩
  f28 := Tryd.func75.trans (congrArg some (by kernel_rfl))
  f29 := Tryd.func76.trans (congrArg some (by kernel_rfl))
  f46 := ⟨Tryd.f84.name, by decide, Tryd.func84.trans (congrArg some (by kernel_rfl))⟩
  f47 := Tryd.func85.trans (congrArg some (by kernel_rfl))
  f48 := Tryd.func86.trans (congrArg some (by kernel_rfl))
  f49 := ⟨Tryd.f87.name, by decide, Tryd.func87.trans (congrArg some (by kernel_rfl))⟩
  f50 := ⟨Tryd.f88.name, by decide, Tryd.func88.trans (congrArg some (by kernel_rfl))⟩
  f57 := ⟨Tryd.f93.name, by decide, Tryd.func93.trans (congrArg some (by kernel_rfl))⟩
  t0 := Tryd.underlying0
  a0 := Tryd.isAgg0
  z0 := Tryd.sizeOf0
  v0 := Tryd.zeroValue0
  t3 := Tryd.underlying3
  a3 := Tryd.isAgg3
  z3 := Tryd.sizeOf3
  v3 := Tryd.zeroValue3
  t4 := Tryd.underlying4
  a4 := Tryd.isAgg4
  z4 := Tryd.sizeOf4
  v4 := Tryd.zeroValue4
  t5 := Tryd.underlying5
  a5 := Tryd.isAgg5
  z5 := Tryd.sizeOf5
  v5 := Tryd.zeroValue5
  t9 := Tryd.underlying9
  a9 := Tryd.isAgg9
  z9 := Tryd.sizeOf9
  v9 := Tryd.zeroValue9
  t22 := Tryd.underlying29
  a22 := Tryd.isAgg29
  z22 := Tryd.sizeOf29
  v22 := Tryd.zeroValue29
  t25 := Tryd.underlying61
  a25 := Tryd.isAgg61
  z25 := Tryd.sizeOf61
  v25 := Tryd.zeroValue61
  t39 := Tryd.underlying77
  a39 := Tryd.isAgg77
  z39 := Tryd.sizeOf77
  v39 := Tryd.zeroValue77
  t45 := Tryd.underlying86
  a45 := Tryd.isAgg86
  z45 := Tryd.sizeOf86
  v45 := Tryd.zeroValue86
  t46 := Tryd.underlying87
  a46 := Tryd.isAgg87
  z46 := Tryd.sizeOf87
  v46 := Tryd.zeroValue87
  t50 := Tryd.underlying80
  a50 := Tryd.isAgg80
  z50 := Tryd.sizeOf80
  v50 := Tryd.zeroValue80
  t53 := Tryd.underlying93
  a53 := Tryd.isAgg93
  z53 := Tryd.sizeOf93
  v53 := Tryd.zeroValue93
  t55 := Tryd.underlying95
  a55 := Tryd.isAgg95
  z55 := Tryd.sizeOf95
  v55 := Tryd.zeroValue95
  t66 := Tryd.underlying102
  a66 := Tryd.isAgg102
  z66 := Tryd.sizeOf102
  v66 := Tryd.zeroValue102
  t70 := Tryd.underlying106
  a70 := Tryd.isAgg106
  z70 := Tryd.sizeOf106
  v70 := Tryd.zeroValue106
  t76 := Tryd.underlying115
  a76 := Tryd.isAgg115
  z76 := Tryd.sizeOf115
  v76 := Tryd.zeroValue115
  t77 := Tryd.underlying116
  a77 := Tryd.isAgg116
  z77 := Tryd.sizeOf116
  v77 := Tryd.zeroValue116 }
end Go.Proofs
namespace Go.Proofs.YtbmmdkbinlnogaaDoor.Aw
open Go Go.Proofs Go.Shelf Go.RowKit Go.Sort
set_option linter.unusedSimpArgs false
set_option linter.unusedVariables false
structure EnR where
  p : ByteArray
  r : List Value
  len : r.length = 9
  one : ∀ v ∈ r, v.oneCell' = true
instance : Inhabited EnR := ⟨⟨⟨#[]⟩, List.replicate 9 (.bool false), by simp, by simp [Value.oneCell']⟩⟩
def encR (x : EnR) : List Value := .string x.p :: x.r
def cfR (x y : EnR) : Int := Lib.compareBytes x.p.data.toList y.p.data.toList
theorem encR_len (x : EnR) : (encR x).length = 10 := by simp [encR, x.len]
theorem encR_one (x : EnR) : ∀ v ∈ encR x, v.oneCell' = true := fun v hv => by
  rcases List.mem_cons.1 hv with rfl | h
  · rfl
  · exact x.one v h
theorem ltR (x y : EnR) : ltOf cfR x y = ltB x.p.data.toList y.p.data.toList := cmp_ltB _ _
theorem swoR : SWO (ltOf cfR) where
  irrefl x := by rw [ltR]; exact ltB_irrefl _
  trans x y z h1 h2 := by rw [ltR] at *; exact ltB_trans h1 h2
  ntrans x y z h1 h2 := by
    rw [ltR] at *
    cases h : ltB x.p.data.toList z.p.data.toList
    · rfl
    · exfalso
      cases h3 : ltB z.p.data.toList y.p.data.toList
      · have := ltB_tri h2 h3
        rw [this, h] at h1
        cases h1
      · have := ltB_trans h h3
        rw [this] at h1
        cases h1
set_option maxHeartbeats 1000000 in
theorem closureR (x y : EnR) (W : World) : Calls Tryd.prog 38 #[.agg (encR x).toArray, .agg (encR y).toArray] W fun e w' => e = .returned (.int .i64 (cfR x y)) ∧ ∃ q os', w' = grow (W.drewN q) os' := by
  obtain ⟨p, r, hl, h1⟩ := x
  obtain ⟨p', r', hl', h1'⟩ := y
  obtain ⟨a1, a2, a3, a4, a5, a6, a7, a8, a9, rfl⟩ : ∃ a1 a2 a3 a4 a5 a6 a7 a8 a9, r = [a1, a2, a3, a4, a5, a6, a7, a8, a9] := by
    match r, hl with
    | [a1, a2, a3, a4, a5, a6, a7, a8, a9], _ => exact ⟨_, _, _, _, _, _, _, _, _, rfl⟩
  obtain ⟨b1, b2, b3, b4, b5, b6, b7, b8, b9, rfl⟩ : ∃ a1 a2 a3 a4 a5 a6 a7 a8 a9, r' = [a1, a2, a3, a4, a5, a6, a7, a8, a9] := by
    match r', hl' with
    | [a1, a2, a3, a4, a5, a6, a7, a8, a9], _ => exact ⟨_, _, _, _, _, _, _, _, _, rfl⟩
  simp only [encR, cfR]
  have hcon := fun W' => Tryd.strings_Compare p p' W'
  change ∀ W', Calls Tryd.prog 39 _ _ _ at hcon
  generalize Lib.compareBytes p.data.toList p'.data.toList = R at hcon ⊢
  clear h1 h1'
  go_enter Tryd.func38, Tryd.ntmps38
  go_wp2_with (go_at_call 39; refine (hcon _).mono ?_; rintro e w' ⟨rfl, rfl⟩)
  go_ret
  exact ⟨rfl, 0, _, by rw [alloc_eq_grow, alloc_eq_grow, grow_grow]; rfl⟩
theorem cmpLaysR (blk off size : Nat) (w : World) : CmpLays Tryd.prog 38 #[] encR 10 cfR blk off size w := fun _ _ _ _ x y => closureR x y _
def enC (l : List Ent) : List AV := l.flatMap entL
def All2 {α β : Type} (R : α → β → Prop) : List α → List β → Prop
  | [], [] => True
  | a :: l, b :: m => R a b ∧ All2 R l m
  | _, _ => False
theorem All2.length {α β : Type} {R : α → β → Prop} : ∀ {l : List α} {m : List β}, All2 R l m → l.length = m.length
  | [], [], _ => rfl
  | _ :: l, _ :: m, h => by simp [All2.length h.2]
  | [], _ :: _, h => h.elim
  | _ :: _, [], h => h.elim
theorem All2.perm {α β : Type} {R : α → β → Prop} {m m' : List β} (hp : m.Perm m') : ∀ {l : List α}, All2 R l m → ∃ l', l.Perm l' ∧ All2 R l' m' := by
  induction hp with
  | nil => intro l h; exact ⟨l, List.Perm.refl _, h⟩
  | cons x _ ih =>
    intro l h
    match l, h with
    | a :: l, h =>
      obtain ⟨l', h1, h2⟩ := ih h.2
      exact ⟨a :: l', h1.cons a, h.1, h2⟩
  | swap x y _ =>
    intro l h
    match l, h with
    | a :: b :: l, h => exact ⟨b :: a :: l, List.Perm.swap b a l, h.2.1, h.1, h.2.2⟩
  | trans _ _ ih1 ih2 =>
    intro l h
    obtain ⟨l1, h1, h2⟩ := ih1 h
    obtain ⟨l2, h3, h4⟩ := ih2 h2
    exact ⟨l2, h1.trans h3, h4⟩
theorem All2.get {α β : Type} {R : α → β → Prop} : ∀ {l : List α} {m : List β}, All2 R l m → ∀ (i : Nat) (h1 : i < l.length) (h2 : i < m.length), R l[i] m[i]
  | _ :: _, _ :: _, h, 0, _, _ => h.1
  | _ :: l, _ :: m, h, i + 1, h1, h2 => by simpa using All2.get h.2 i (by simpa using h1) (by simpa using h2)
  | [], _, _, _, h1, _ => by simp at h1
  | _ :: _, [], h, _, _, _ => h.elim
def RE (G : Gh) (w : World) (e : Ent) (x : EnR) : Prop := x.p = ⟨e.path.toArray⟩ ∧ RdL G w (entL e) (encR x)
theorem RdL.split {G : Gh} {w : World} : ∀ {xs ys : List AV} {vs : List Value}, RdL G w (xs ++ ys) vs → ∃ a b, vs = a ++ b ∧ RdL G w xs a ∧ RdL G w ys b
  | [], _, vs, h => ⟨[], vs, rfl, by simp [RdL], h⟩
  | x :: xs, ys, vs, h => by
    simp only [List.cons_append, RdL] at h
    obtain ⟨v, r, rfl, h1, h2⟩ := h
    obtain ⟨a, b, rfl, h3, h4⟩ := RdL.split h2
    exact ⟨v :: a, b, rfl, by simp only [RdL]; exact ⟨v, a, rfl, h1, h3⟩, h4⟩
theorem RdL.app {G : Gh} {w : World} : ∀ {xs ys : List AV} {a b : List Value}, RdL G w xs a → RdL G w ys b → RdL G w (xs ++ ys) (a ++ b)
  | [], _, a, b, h, h' => by
    simp only [RdL] at h
    subst h
    simpa using h'
  | x :: xs, ys, a, b, h, h' => by
    simp only [RdL] at h
    obtain ⟨v, r, rfl, h1, h2⟩ := h
    simp only [List.cons_append, RdL]
    exact ⟨v, r ++ b, rfl, h1, RdL.app h2 h'⟩
theorem rows_split {G : Gh} {w : World} : ∀ {l : List Ent} {vs : List Value}, RdL G w (enC l) vs → (∀ v ∈ vs, v.oneCell' = true) → ∃ ds : List EnR, vs = ds.flatMap encR ∧ All2 (RE G w) l ds
  | [], vs, h, _ => by
    simp only [enC, List.flatMap_nil, RdL] at h
    exact ⟨[], h, trivial⟩
  | e :: l, vs, h, h1 => by
    rw [show enC (e :: l) = entL e ++ enC l by simp [enC]] at h
    obtain ⟨a, b, rfl, h2, h3⟩ := RdL.split h
    obtain ⟨ds, rfl, h4⟩ := rows_split h3 (fun v hv => h1 v (by simp only [List.mem_append]; exact .inr hv))
    have hlen := h2.length
    have h2' := h2
    simp only [entL, RdL] at h2
    obtain ⟨v, r, rfl, h5, -⟩ := h2
    simp only [str, Rd] at h5
    subst h5
    refine ⟨⟨⟨e.path.toArray⟩, r, by simpa [entL] using hlen, fun v hv => h1 v (by simp [hv])⟩ :: ds, by simp [encR], ⟨rfl, h2'⟩, h4⟩
theorem rows_join {G : Gh} {w : World} : ∀ {l : List Ent} {ds : List EnR}, All2 (RE G w) l ds → RdL G w (enC l) (ds.flatMap encR)
  | [], [], _ => by simp [enC, RdL]
  | e :: l, x :: ds, h => by
    rw [show enC (e :: l) = entL e ++ enC l by simp [enC], List.flatMap_cons]
    exact RdL.app h.1.2 (rows_join h.2)
  | [], _ :: _, h => h.elim
  | _ :: _, [], h => h.elim
theorem flatR_len (ds : List EnR) : (ds.flatMap encR).length = ds.length * 10 := by
  induction ds with
  | nil => rfl
  | cons x ds ih => rw [List.flatMap_cons, List.length_append, encR_len, ih, List.length_cons]; omega
theorem flatR_get : ∀ (ds : List EnR) (t : Nat), t < ds.length * 10 → (ds.flatMap encR)[t]! = (encR ds.toArray[t / 10]!)[t % 10]!
  | [], t, h => by simp at h
  | x :: ds, t, h => by
    rw [List.length_cons] at h
    by_cases h1 : t < 10
    · have e0 : t / 10 = 0 := by omega
      have e1 : t % 10 = t := by omega
      rw [e0, e1, List.flatMap_cons]
      simp only [List.getElem!_eq_getElem?_getD, List.getElem?_append_left (show t < (encR x).length by rw [encR_len]; exact h1)]
      simp
    · obtain ⟨u, rfl⟩ : ∃ u, t = u + 10 := ⟨t - 10, by omega⟩
      have e0 : (u + 10) / 10 = u / 10 + 1 := by omega
      have e1 : (u + 10) % 10 = u % 10 := by omega
      have ih := flatR_get ds u (by omega)
      rw [e0, e1, List.flatMap_cons]
      simp only [List.getElem!_eq_getElem?_getD, List.getElem?_append_right (show (encR x).length ≤ u + 10 by rw [encR_len]; omega), encR_len, Nat.add_sub_cancel] at ih ⊢
      rw [ih]
      simp
theorem flatK_eq (ds : List EnR) : flatK encR 10 ds.toArray = (ds.flatMap encR).toArray := by
  refine ext_get! (by rw [size_flatK]; simp only [List.size_toArray, flatR_len]) fun t ht => ?_
  rw [size_flatK] at ht
  simp only [List.size_toArray] at ht
  rw [get_flatK encR 10 ds.toArray t (by simpa using ht), ← flatR_get ds t ht]
  simp
theorem sw_heap {w : World} {blk off n : Nat} {d : Array EnR} {os : Array Obj} : ∃ f : Array Value → Array Value, (∀ c, (f c).size = c.size) ∧ ∀ k, k < w.heap.size → (sortWorldK encR 10 w blk off n d os).heap[k]? = if k = blk then (w.heap[k]?).map (onCells f) else w.heap[k]? := by
  refine ⟨putCells id off (flatK encR 10 d), fun c => by simp [putCells], fun k hk => ?_⟩
  unfold sortWorldK
  rw [heap_grow_old _ _ (by rw [size_putRowK]; exact hk)]
  show ((w.heap).modify blk (onCells _))[k]? = _
  rw [Array.getElem?_modify]
  by_cases e : blk = k
  · subst e; simp
  · rw [if_neg e, if_neg (fun h => e h.symm)]
theorem hin0_one {o : AO} {id g : Nat} {x : AO} (h : hin0 [o] id = some (g, x)) : id = 1000 ∧ g = 0 ∧ x = o := by
  unfold hin0 at h
  split at h
  · rename_i h1
    match hid : id - 1000 with
    | 0 =>
      rw [hid] at h
      simp at h
      exact ⟨by omega, h.1.symm, h.2.symm⟩
    | k + 1 =>
      rw [hid] at h
      simp at h
  · cases h
theorem heap_out {M M' : Nat → Prop} {G : Gh} {nl : Bool} {cells cells' : List AV} {w w' : World} (hH : Heap 1 M G (hin0 [.row nl cells]) w) (hlt : w.heap.size ≤ w'.heap.size) (hg : AV.gl.glL 1 cells')
    (hr : ∀ ob, G.ob 1000 0 = some ob → (ob = none → cells' = []) ∧ ∀ b, ob = some b → ¬ G.S b ∧ M' b ∧ ∃ vs, RdL G w' cells' vs ∧ Blk w'.heap[b]? vs) : Heap 1 M' G (lookH [(1000, 0, .row nl cells')]) w' where
  lt b hb := Nat.lt_of_lt_of_le (hH.lt b hb) hlt
  live id g ob h := by
    obtain ⟨o, ho⟩ := hH.live id g ob h
    obtain ⟨rfl, rfl, -⟩ := hin0_one ho
    exact ⟨.row nl cells', by simp [lookH]⟩
  gl id g n c h := by
    simp only [lookH] at h
    split at h
    · simp only [Option.some.injEq, Prod.mk.injEq, AO.row.injEq] at h
      obtain ⟨rfl, -, rfl⟩ := h
      exact ⟨by omega, hg⟩
    · cases h
  inj := hH.inj
  row id g n c h := by
    simp only [lookH] at h
    split at h
    · rename_i e
      subst e
      simp only [Option.some.injEq, Prod.mk.injEq, AO.row.injEq] at h
      obtain ⟨rfl, rfl, rfl⟩ := h
      obtain ⟨ob, h1, h2, -, -⟩ := hH.row 1000 0 nl cells (by simp [hin0])
      exact ⟨ob, h1, h2, hr ob h1⟩
    · cases h
theorem free_enC {l : List Ent} : AV.free.freeL (enC l) = true := freeL_iff.2 fun x hx => by
  obtain ⟨e, _, h⟩ := List.mem_flatMap.1 hx
  have : AV.free.freeL (entL e) = true := by simp only [entL, AV.free, AV.free.freeL, str, int, free_u8, Bool.and_self]
  exact freeL_iff.1 this x h
theorem enC_gl {nl : Bool} {l : List Ent} : ∀ n cells, AO.row n cells ∈ [AO.row nl (enC l)] → AV.gl.glL 1 cells := by
  intro n cells h
  simp only [List.mem_singleton, AO.row.injEq] at h
  obtain ⟨-, rfl⟩ := h
  exact glL_of_free _ _ free_enC
set_option maxHeartbeats 1000000 in
theorem SortFunc_h [Tabs Tryd.prog] (nl : Bool) (l : List Ent) (hnl : nl = true → l = []) (hnd : (l.map (·.path)).Nodup) (hl : l.length ≤ 1000000) :
    HCon Tryd.prog 37 [.own 1000 0 (some 10) 0 l.length, .sc (.func (.func 38) #[] #[])] [.row nl (enC l)] (.tup []) [(1000, 0, .row nl (enC (sortE l)))] 1 := by
  refine ⟨by simp [AV.gl.glL, AV.gl], enC_gl, ?_⟩
  intro w G M vs hT hH hr
  simp only [RdL] at hr
  obtain ⟨v1, r1, rfl, h1, v2, r2, rfl, h2, rfl⟩ := hr
  simp only [Rd] at h2
  subst h2
  obtain ⟨ob, o1, o2, o3, o4⟩ := hH.row 1000 0 nl (enC l) (by simp [hin0])
  simp only [Rd] at h1
  obtain ⟨h1, h3⟩ := h1
  by_cases h0 : l = []
  · subst h0
    obtain ⟨p, cap, rfl⟩ : ∃ p cap, v1 = .slice p 0 cap := by rcases h1 with ⟨rfl, _⟩ | ⟨b, cap, o, rfl, _⟩ <;> exact ⟨_, _, rfl⟩
    have hc := AnyF.slices_SortFunc_none (P := Tryd.prog) Tryd.sortEnt p cap (.func (.func 38) #[] #[]) w
    change Calls Tryd.prog 37 _ _ _ at hc
    refine hc.mono ?_
    rintro e w' ⟨rfl, rfl⟩
    refine ⟨_, G, rfl, Keep.refl _ _ _, Ext.refl _ _ _, heap_out hH (Nat.le_refl _) (by simp [enC, sortE, AV.gl.glL]) ?_, by simp [Rd, RdL], by simp [AV.gl, AV.gl.glL], fun b h => .inl h⟩
    intro ob' hob
    rw [o1] at hob
    cases hob
    refine ⟨fun _ => rfl, fun b hb => ?_⟩
    obtain ⟨k1, k2, vs, k3, k4⟩ := o4 b hb
    exact ⟨k1, .inr k2, vs, k3, k4⟩
  have hnl' : nl = false := by cases nl; rfl; exact absurd (hnl rfl) h0
  subst hnl'
  obtain ⟨b, rfl⟩ : ∃ b, ob = some b := by
    cases ob
    · exact absurd (o2.2 rfl) (by simp)
    · exact ⟨_, rfl⟩
  obtain ⟨cap, o, E, k, rfl, hcap, ho, hsh, hk⟩ := h3 _ o1
  obtain ⟨nS, mB, vs, hrd, hblk⟩ := o4 b rfl
  obtain ⟨cs, E', hcs, hget, hone⟩ := hblk.shaped hsh
  obtain ⟨ds, rfl, hA⟩ := rows_split hrd hone
  have hlen := hA.length
  have hpos : 0 < l.length := List.length_pos_iff.2 h0
  have ho' : o = 0 := by rcases ho with h | h; exact h; omega
  subst ho'
  have hb : b < w.heap.size := (Array.getElem?_eq_some_iff.1 hcs).1
  have hHolds : HoldsK encR 10 w b 0 ds.toArray := by
    intro j hj
    rw [flatK_eq] at hj ⊢
    have hj' : j < (ds.flatMap encR).length := by simpa using hj
    have hv : (ds.flatMap encR)[j]? = some ((ds.flatMap encR).toArray[j]!) := by
      simp [List.getElem?_eq_getElem hj']
    have hc := hget j _ hv
    constructor
    · simp only [World.cell?, hcs, Nat.zero_add]
      rw [hc]
      rfl
    · simp only [World.frozen?, hcs]
      simp
  have hcon := AnyQ.slices_SortFunc (P := Tryd.prog) Tryd.sortEnt 10 (fun w => by kernel_rfl) (fun w => by kernel_rfl) encR encR_len encR_one cfR swoR 38 #[] b 0 cap ds.toArray w (enters_of Tryd.func38 (by kernel_rfl) rfl) (cmpLaysR b 0 _ w) hHolds hb (by simp; omega)
  change Calls Tryd.prog 37 _ _ _ at hcon
  simp only [List.size_toArray, ← hlen] at hcon
  refine hcon.mono ?_
  rintro e w' ⟨rfl, d', n, os, hp, hs, rfl⟩
  obtain ⟨hp0, -, hp1⟩ := hp
  have hd' : d'.size = l.length := by rw [hp0]; simp [hlen]
  have hperm : ds.Perm d'.toList := by
    have h1 : (d'.extract 0 l.length).toList = d'.toList := by rw [← hd']; simp
    have h2 : (ds.toArray.extract 0 l.length).toList = ds := by rw [hlen]; simp
    rw [h1, h2] at hp1
    exact hp1.symm
  obtain ⟨l', hl1, hl2⟩ := hA.perm hperm
  have hsrt : SrtE l' := by
    rw [SrtE, List.pairwise_iff_getElem]
    intro i j hi hj hij
    have hli := hl2.length
    have hij' : i < d'.toList.length := by rw [← hli]; exact hi
    have hjj' : j < d'.toList.length := by rw [← hli]; exact hj
    have hss := hs i j (Nat.zero_le _) hij (by rw [← hd']; simpa using hjj')
    rw [ltR] at hss
    have e1 := (hl2.get i hi hij').1
    have e2 := (hl2.get j hj hjj').1
    have g1 : d'[i]! = d'.toList[i] := by rw [getElem!_pos d' i (by simpa using hij')]; simp
    have g2 : d'[j]! = d'.toList[j] := by rw [getElem!_pos d' j (by simpa using hjj')]; simp
    rw [g1, g2, e1, e2] at hss
    have hss : ltB l'[j].path l'[i].path = false := hss
    cases hh : ltB l'[i].path l'[j].path
    · exfalso
      have heq := ltB_tri hh hss
      have hnd' : (l'.map (·.path)).Nodup := (hl1.map _).nodup_iff.1 hnd
      have := (List.pairwise_iff_getElem.1 hnd') i j (by simpa using hi) (by simpa using hj) hij
      simp only [List.getElem_map] at this
      exact this heq
    · rfl
  have hsl : l' = sortE l := srtE_sortE hsrt hl1.symm hnd
  rw [hsl] at hl2
  have hsz : w.heap.size ≤ (sortWorldK encR 10 w b 0 n d' os).heap.size := by unfold sortWorldK; rw [size_grow, size_putRowK]; exact Nat.le_add_right _ _
  have hkeep : ∀ k, k < w.heap.size → k ≠ b → (sortWorldK encR 10 w b 0 n d' os).heap[k]? = w.heap[k]? := fun k h1 h2 => by
    obtain ⟨f, -, hf⟩ := sw_heap (w := w) (blk := b) (off := 0) (n := n) (d := d') (os := os)
    rw [hf k h1, if_neg h2]
  obtain ⟨f, hfs, hf⟩ := sw_heap (w := w) (blk := b) (off := 0) (n := n) (d := d') (os := os)
  have hf := hf b hb
  rw [if_pos rfl, hcs] at hf
  have hf : (sortWorldK encR 10 w b 0 n d' os).heap[b]? = some (.cells (f cs) E' (0, 0)) := hf
  have hH' := holdsK_sortWorldK_c encR 10 w b 0 ds.toArray d' n os hHolds hb (by rw [hd']; simp [hlen])
  obtain ⟨W, hW⟩ : ∃ W, W = sortWorldK encR 10 w b 0 n d' os := ⟨_, rfl⟩
  rw [← hW] at hsz hkeep hf hH' ⊢
  have hSk : ∀ c, G.S c → W.heap[c]? = w.heap[c]? := fun c hc => hkeep c (hH.lt c hc) (fun h => nS (h ▸ hc))
  have hrd' : RdL G w (enC (sortE l)) (d'.toList.flatMap encR) := rows_join hl2
  refine ⟨_, G, rfl, ?_, ?_, heap_out hH hsz (glL_of_free _ _ free_enC) ?_, by simp [Rd, RdL], by simp [AV.gl, AV.gl.glL], fun b h => .inl h⟩
  · exact ⟨by rw [hW]; rfl, by rw [hW]; rfl, by rw [hW]; rfl, hsz, fun k h1 h2 => hkeep k h1 (fun h => h2 (h ▸ mB))⟩
  · refine ⟨fun _ h => h, hSk, fun c p hp => ?_, fun _ _ _ _ h => h⟩
    by_cases hcb : c = b
    · subst hcb
      simp only [World.shape?, hcs, hf] at hp ⊢
      rw [hfs]
      exact hp
    · by_cases hc : c < w.heap.size
      · simp only [World.shape?, hkeep c hc hcb] at hp ⊢
        exact hp
      · simp only [World.shape?, Array.getElem?_eq_none (Nat.le_of_not_lt hc)] at hp
        cases hp
  · intro ob' hob
    rw [o1] at hob
    obtain rfl := Option.some.inj hob
    refine ⟨fun h => (by cases h), fun b' hb' => ?_⟩
    obtain rfl := Option.some.inj hb'
    refine ⟨nS, .inr mB, _, RdL.of_free (fun _ h => h) hSk _ _ free_enC hrd', Blk.cells hf ?_ ?_⟩
    · intro j v hv
      have hj : j < (d'.toList.flatMap encR).length := (List.getElem?_eq_some_iff.1 hv).1
      have e : flatK encR 10 d' = (d'.toList.flatMap encR).toArray := by simpa using flatK_eq d'.toList
      have h1 := (hH' j (by rw [e]; simpa using hj)).1
      rw [e] at h1
      simp only [World.cell?, hf, Nat.zero_add] at h1
      have hv' : (d'.toList.flatMap encR).toArray[j]! = v := by
        rw [List.getElem?_eq_getElem hj] at hv
        simp only [Option.some.injEq] at hv
        rw [← hv]
        simp [List.getElem?_eq_getElem hj]
      rw [hv'] at h1
      exact h1
    · intro v hv
      obtain ⟨x, _, hx⟩ := List.mem_flatMap.1 hv
      exact encR_one x v hx
end Go.Proofs.YtbmmdkbinlnogaaDoor.Aw
namespace Go.Proofs.YtbmmdkbinlnogaaDoor.Aw
open Go
set_option linter.unusedSimpArgs false
set_option linter.unusedVariables false
theorem Con.alloc2 {P : Program} [Tabs P] {f : Nat} {xs : List Value} {v : Value} (a b : World → Obj) (h : ∀ w, Calls P f xs.toArray w fun e w' => e = .returned v ∧ w' = (w.alloc (a w)).alloc (b w)) : Con P f (xs.map .sc) (.sc v) := by
  intro w S vs _ hS hr
  rw [rdL_sc_inv hr]
  refine (h w).mono ?_
  rintro e w' ⟨rfl, rfl⟩
  have e : ((w.alloc (a w)).alloc (b w)).heap = (w.heap.push (a w)).push (b w) := rfl
  have hsz : w.heap.size ≤ ((w.alloc (a w)).alloc (b w)).heap.size := by rw [e, Array.size_push, Array.size_push]; omega
  refine ⟨v, S, rfl, ⟨rfl, rfl, rfl, hsz, fun k hk _ => ?_⟩, fun _ h => h, fun _ h => .inl h, fun b hb => Nat.lt_of_lt_of_le (hS b hb) hsz, rfl, by simp [Rd]⟩
  rw [e]
  rw [Array.getElem?_push_lt (by simp; omega), Array.getElem_push_lt hk, Array.getElem?_eq_getElem hk]
theorem IndexAny_long_c [Tabs Tryd.prog] (s cs : List UInt8) (h8 : 8 < s.length) (hs : s.length ≤ 1000000) (h2 : 2 ≤ cs.length) (hc : cs.length ≤ 100) (ha : ∀ c ∈ cs, c.toNat < 128) : Con Tryd.prog n_strings_IndexAny [str s, str cs] (int (Lib.indexAny s cs)) := by
  refine Con.alloc2 (xs := [.string ⟨s.toArray⟩, .string ⟨cs.toArray⟩]) (fun _ => .cells (Lib.setCells cs) _) (fun _ => .cells (Lib.setCells cs) _) fun w => Any.strings_IndexAny_long Tryd.lays153 (fun w => by kernel_rfl) (by kernel_rfl) ⟨s.toArray⟩ ⟨cs.toArray⟩ w (by simpa [ByteArray.size] using h2) (by simpa [ByteArray.size] using h8) (by simp [ByteArray.size]; omega) (by simp [ByteArray.size]; omega) (fun j b hb => ha b (List.mem_of_getElem? hb))
end Go.Proofs.YtbmmdkbinlnogaaDoor.Aw
namespace Go.Proofs.YtbmmdkbinlnogaaDoor.Sx
open Go Go.Proofs Go.Shelf Go.RowKit Go.Lib
set_option linter.unusedSimpArgs false
set_option linter.unusedVariables false
variable {P : Program} {ρ : Ren}
theorem get_of {s : ByteArray} {k : Nat} {b : UInt8} (h : s.data.toList[k]? = some b) : s.get! k = b := by
  have hk : k < s.size := by
    have := (List.getElem?_eq_some_iff.1 h).1
    rw [← Lib.size_eq] at this
    exact this
  have h2 := Lib.data_getElem? s k hk
  rw [h] at h2
  have := get_at s k hk
  rw [show s.get! (k + 0) = s.get! k from rfl] at this
  rw [this]
  exact (Option.some.inj h2).symm
theorem decodeN_run (n c0 c1 c2 c3 : Nat) (hn : 1 ≤ n) (h0 : 128 ≤ c0) : (decodeN n c0 c1 c2 c3).2 ≤ n ∧ (decodeN n c0 c1 c2 c3).2 ≤ 4 ∧ (1 < (decodeN n c0 c1 c2 c3).2 → 128 ≤ c1) ∧ (2 < (decodeN n c0 c1 c2 c3).2 → 128 ≤ c2) ∧ (3 < (decodeN n c0 c1 c2 c3).2 → 128 ≤ c3) := by
  unfold decodeN
  repeat' split
  all_goals (refine ⟨?_, ?_, fun h => ?_, fun h => ?_, fun h => ?_⟩ <;> simp only at * <;> omega)
theorem decode_run (s : ByteArray) (i : Nat) (h : i < s.size) (ha : 128 ≤ (s[i]'h).toNat) : i + (Utf8.decode s i).2 ≤ s.size ∧ ∀ j (b : UInt8), j < (Utf8.decode s i).2 → s.data.toList[i + j]? = some b → 128 ≤ b.toNat := by
  have h0 : 128 ≤ (s.get! i).toNat := by
    have := get_at s i h
    rw [show s.get! (i + 0) = s.get! i from rfl] at this
    rw [this]
    exact ha
  rw [decode_at]
  obtain ⟨k1, k4, k2, k3, k5⟩ := decodeN_run (s.size - i) (s.get! i).toNat (s.get! (i + 1)).toNat (s.get! (i + 2)).toNat (s.get! (i + 3)).toNat (by omega) h0
  refine ⟨by omega, fun j b hj hb => ?_⟩
  rw [← get_of hb]
  have : j = 0 ∨ j = 1 ∨ j = 2 ∨ j = 3 := by omega
  rcases this with rfl | rfl | rfl | rfl
  · exact h0
  · exact k2 hj
  · exact k3 hj
  · exact k5 hj
theorem NoAny.run {s chars : List UInt8} {i k : Nat} (h : NoAny s chars i) (hs : ∀ j (b : UInt8), j < k → s[i + j]? = some b → 128 ≤ b.toNat) (hc : ∀ c ∈ chars, c.toNat < 128) : NoAny s chars (i + k) := fun j b hj hb => by
  by_cases e : j < i
  · exact h j b e hb
  · have h1 := hs (j - i) b (by omega) (by rw [show i + (j - i) = j by omega]; exact hb)
    cases hin : chars.contains b
    · rfl
    · have := hc b (by simpa using hin)
      omega
theorem indexByte_high {s : List UInt8} {c : UInt8} (hs : ∀ b ∈ s, b.toNat < 128) (hc : 128 ≤ c.toNat) : Lib.indexByte s c = -1 := by
  have h := Lib.contains_iff_indexByte s c
  have hn : s.contains c = false := by
    cases hin : s.contains c
    · rfl
    · have := hs c (by simpa using hin)
      omega
  rw [hn] at h
  have h1 := of_decide_eq_false h.symm
  have h2 := Lib.indexByte_ge s c
  omega
end Go.Proofs.YtbmmdkbinlnogaaDoor.Sx
namespace Go.Proofs.YtbmmdkbinlnogaaDoor.Sx
open Go Go.Proofs Go.Shelf Go.RowKit Go.Lib
set_option linter.unusedSimpArgs false
set_option linter.unusedVariables false
variable {P : Program} {ρ : Ren}
theorem below_dr (w : World) : ∀ n, Below w.heap.size w (w.drewN n)
  | 0 => Below.refl _ _
  | n + 1 => (below_dr w n).drew
set_option maxHeartbeats 4000000 in
set_option maxRecDepth 1000000 in
theorem IndexRune_err (L : Lays.n152 P ρ) (s : ByteArray) (w : World) (ha : ∀ b ∈ s.data.toList, b.toNat < 128) :
    Calls P (ρ.f 152) #[.string s, .int .i32 65533] w fun e w' => e = .returned (.int .i64 (-1)) ∧ Below w.heap.size w w' := by
  have HA : Aside (∀ b ∈ s.data.toList, b.toNat < 128) := ha
  clear ha
  have mixed := L.mixed
  have t3 := L.t3; have a3 := L.a3; have z3 := L.z3; have v3 := L.v3
  have t4 := L.t4; have a4 := L.a4; have z4 := L.z4; have v4 := L.v4
  have t5 := L.t5; have a5 := L.a5; have z5 := L.z5; have v5 := L.v5
  have t9 := L.t9; have a9 := L.a9; have z9 := L.z9; have v9 := L.v9
  have t21 := L.t21; have a21 := L.a21; have z21 := L.z21; have v21 := L.v21
  go_enter L.f152, Body.n152_ntmps ρ
  go_wp2
  go_loopg [5, 6] s.size (fun g _ _ wx => ∃ i : Nat, i + g = s.size ∧ wx = w.iter s i)
  case atStart => exact ⟨0, by omega, rfl⟩
  case round =>
    obtain ⟨i, hig, rfl⟩ := hrel
    cases gk with
    | zero =>
      obtain rfl : i = s.size := by omega
      have hnx := run_next_end (P := P) w s s.size
      go_wp2
      go_ret
      exact ⟨rfl, (Below.refl _ w).alloc (Nat.le_refl _) _⟩
    | succ g =>
      have hi : i < s.size := by omega
      have hb : (s[i]'hi).toNat < 128 := HA.out _ (List.mem_of_getElem? (Lib.data_getElem? s i hi))
      have hnx := fun ty => run_next_ascii (P := P) w s i ty hi hb
      obtain ⟨x, hx⟩ : ∃ x : Nat, (s[i]'hi).toNat = x := ⟨_, rfl⟩
      rw [hx] at hnx hb
      have hne : ¬ ((x : Int) = 65533) := by omega
      go_wp2
      go_roundg g
      case measure => omega
      case rel => exact ⟨i + 1, by omega, rfl⟩
set_option maxHeartbeats 4000000 in
set_option maxRecDepth 1000000 in
theorem IndexRune_high (L : Lays.n152 P ρ) (s : ByteArray) (r : Int) (w : World) (h0 : 128 ≤ r) (h1 : r ≤ 1114111) (hs : s.size ≤ 3) (ha : ∀ b ∈ s.data.toList, b.toNat < 128) :
    Calls P (ρ.f 152) #[.string s, .int .i32 r] w fun e w' => e = .returned (.int .i64 (-1)) ∧ Below w.heap.size w w' := by
  by_cases he : r = 65533
  · subst he; exact IndexRune_err L s w ha
  have mixed := L.mixed
  have t3 := L.t3; have a3 := L.a3; have z3 := L.z3; have v3 := L.v3
  have t4 := L.t4; have a4 := L.a4; have z4 := L.z4; have v4 := L.v4
  have t5 := L.t5; have a5 := L.a5; have z5 := L.z5; have v5 := L.v5
  have t9 := L.t9; have a9 := L.a9; have z9 := L.z9; have v9 := L.v9
  have t21 := L.t21; have a21 := L.a21; have z21 := L.z21; have v21 := L.v21
  have e119 : ∀ args w, (callFunc (ρ.f 119) args).run P w = .ok (.enter (ρ.f 119) args) w := enters_of L.f119 (by kernel_rfl) rfl
  have e137 : ∀ args w, (callFunc (ρ.f 137) args).run P w = .ok (.enter (ρ.f 137) args) w := enters_of L.f137 (by kernel_rfl) rfl
  have hlt : ¬ (r < 128) := by omega
  have hle : (0 : Int) ≤ r := by omega
  cases hv : Lib.validRune r
  · have c119 := Any.utf8_ValidRune (P := P) (ρ := ρ) { L with } r w
    rw [hv] at c119
    go_enter L.f152, Body.n152_ntmps ρ
    go_wp2_with (go_at_fn (ρ.f 119); refine c119.mono ?_; rintro e w' ⟨rfl, hw⟩; rw [hw])
    go_ret
    exact ⟨rfl, Below.refl _ _⟩
  · have c119 := Any.utf8_ValidRune (P := P) (ρ := ρ) { L with } r w
    rw [hv] at c119
    have hconv : ∀ w, (convert (ρ.t 21) (ρ.t 9) (.int .i32 r)).run P w = .ok (.string (Utf8.encode r)) w := fun w => run_convert_int_string w _ _ _ _ (by rw [t21]; rfl) t9
    obtain ⟨f1, f2, f3⟩ := encode_facts r (by rw [validRune_eq]; exact hv) h0
    obtain ⟨E, hE⟩ : ∃ E, Utf8.encode r = E := ⟨_, rfl⟩
    rw [hE] at hconv f1 f2 f3
    obtain ⟨n, hn⟩ : ∃ n, E.size = n + 1 := ⟨E.size - 1, by omega⟩
    have hlast : ((E.size : Int) - 1) = (n : Int) := by omega
    have hnE : n < E.size := by omega
    obtain ⟨c, hc⟩ : ∃ c : UInt8, E[n]'hnE = c := ⟨_, rfl⟩
    have hc128 : 128 ≤ c.toNat := by
      have := f3 (by omega)
      rw [← hc]
      have e : E.size - 1 = n := by omega
      simp only [e] at this
      exact this
    clear f3
    have HA : Aside (∀ b ∈ s.data.toList, b.toNat < 128) := ha
    clear ha hE
    by_cases hin : n < s.size
    · obtain ⟨x, hx⟩ : ∃ x : UInt8, s[n]'hin = x := ⟨_, rfl⟩
      have hx128 : x.toNat < 128 := by rw [← hx]; exact HA.out _ (List.mem_of_getElem? (Lib.data_getElem? s n hin))
      have hne : ((x.toNat : Int) == (c.toNat : Int)) = false := beq_eq_false_iff_ne.2 (by omega)
      have hz : (n : Int) < (s.size : Int) := by omega
      have hidx : Lib.indexByte (s.extract (n + 1) s.size).data.toList c = -1 := indexByte_high (fun b hb => HA.out b (mem_extract hb)) hc128
      have hw1 : IntKind.i64.wrap ((n : Int) + 1) = (n : Int) + 1 := wrap_small _ (by omega) (by omega)
      have hw2 : (0 : Int) ≤ (n : Int) + 1 := by omega
      have hw3 : (n : Int) + 1 ≤ (s.size : Int) := by omega
      have hw4 : ((n : Int) + 1).toNat = n + 1 := by omega
      have hsl : ∀ W, (Instr.slice (ρ.t 9) (.string s) (some (.int .i64 ((n : Int) + 1))) none none).run P W = .ok (.string (s.extract (n + 1) s.size)) W := fun W => by
        rw [run_slice_string_from_if W (ρ.t 9) s .i64 ((n : Int) + 1) t9, if_pos (by omega)]
        rfl
      have hi1 : ∀ W, (Instr.index (ρ.t 9) (.string s) (.int .i64 (n : Int))).run P W = .ok (.int .u8 x.toNat) W := fun W => by
        rw [run_index_string W (ρ.t 9) s .i64 (n : Int) t9, dif_pos (by omega)]
        simp only [Int.toNat_natCast, hx]
      have hi2 : ∀ W, (Instr.index (ρ.t 9) (.string E) (.int .i64 (n : Int))).run P W = .ok (.int .u8 c.toNat) W := fun W => by
        rw [run_index_string W (ρ.t 9) E .i64 (n : Int) t9, dif_pos (by omega)]
        simp only [Int.toNat_natCast, hc]
      have cI : ∀ W, Calls P (ρ.f 137) #[.string (s.extract (n + 1) s.size), .int .u8 c.toNat] W fun e w' => e = .returned (.int .i64 (-1)) ∧ w' = W := fun W => by
        have h := Any.strings_IndexByte (P := P) (ρ := ρ) { L with } (s.extract (n + 1) s.size) c.toNat W
        rw [show ((c.toNat : Int)).toNat.toUInt8 = c by simp, hidx] at h
        exact h
      clear hx hc
      go_enter L.f152, Body.n152_ntmps ρ
      go_wp2_with (go_at_fn (ρ.f 119); refine c119.mono ?_; rintro e w' ⟨rfl, hw⟩; rw [hw])
      go_step3
      go_wp2
      go_loopg [9] 0 (fun g s9 wx => s9 = .int .i64 (n : Int) ∧ wx = w)
      case atStart => exact ⟨rfl, rfl⟩
      case round =>
        obtain ⟨rfl, rfl⟩ := hrel
        go_wp2
        go_step3
        go_wp2_with fail
        go_quiet_o (fail)
        go_wp2_with fail
        have hbl : Below wr.heap.size wr (wr.drewN nq) := below_dr wr nq
        generalize wr.drewN nq = W1 at hbl ⊢
        go_quiet_o (first | (go_at_fn (ρ.f 137); refine Calls.quiet_of_same (cI _)))
        go_wp2
        simp only [Exit.noGoto_ret, go_sem]
        go_ret
        exact ⟨rfl, hbl.trans ((below_dr W1 _).mono hbl.size)⟩
    · have hz : ¬ ((n : Int) < (s.size : Int)) := by omega
      go_enter L.f152, Body.n152_ntmps ρ
      go_wp2_with (go_at_fn (ρ.f 119); refine c119.mono ?_; rintro e w' ⟨rfl, hw⟩; rw [hw])
      go_step3
      go_wp2
      go_loopg [9] 0 (fun g s9 wx => s9 = .int .i64 (n : Int) ∧ wx = w)
      case atStart => exact ⟨rfl, rfl⟩
      case round =>
        obtain ⟨rfl, rfl⟩ := hrel
        go_wp2
        simp only [Exit.noGoto_ret, go_sem]
        go_ret
        exact ⟨rfl, Below.refl _ _⟩
set_option maxHeartbeats 8000000 in
set_option maxRecDepth 1000000 in
theorem IndexAny_short (L : Lays.n153 P ρ) (s chars : ByteArray) (w : World) (h2 : 2 ≤ chars.size) (h3 : chars.size ≤ 3) (h8 : s.size ≤ 8) (hac : ∀ b ∈ chars.data.toList, b.toNat < 128) :
    Calls P (ρ.f 153) #[.string s, .string chars] w fun e w' => e = .returned (.int .i64 (Lib.indexAny s.data.toList chars.data.toList)) ∧ Below w.heap.size w w' := by
  have HC : Aside (∀ b ∈ chars.data.toList, b.toNat < 128) := hac
  clear hac
  have hemp : chars.toList.isEmpty = false := by
    rw [Lib.toList_data]
    cases h : chars.data.toList with
    | nil => have := Lib.size_eq chars; rw [h, List.length_nil] at this; omega
    | cons _ _ => rfl
  have hn1 : ((chars.size : Int) == 1) = false := beq_eq_false_iff_ne.2 (by omega)
  have h8z : decide ((8 : Int) < (s.size : Int)) = false := decide_eq_false (by omega)
  have mixed := L.mixed
  have t3 := L.t3; have a3 := L.a3; have z3 := L.z3; have v3 := L.v3
  have t4 := L.t4; have a4 := L.a4; have z4 := L.z4; have v4 := L.v4
  have t5 := L.t5; have a5 := L.a5; have z5 := L.z5; have v5 := L.v5
  have t9 := L.t9; have a9 := L.a9; have z9 := L.z9; have v9 := L.v9
  have t21 := L.t21; have a21 := L.a21; have z21 := L.z21; have v21 := L.v21
  have e152 : ∀ args w, (callFunc (ρ.f 152) args).run P w = .ok (.enter (ρ.f 152) args) w := enters_of L.f152 (by kernel_rfl) rfl
  have e226 : ∀ args w, (callFunc (ρ.f 226) args).run P w = .ok (.enter (ρ.f 226) args) w := enters_of L.f226 (by kernel_rfl) rfl
  go_enter L.f153, Body.n153_ntmps ρ
  go_wp2_with (go_at_fn (ρ.f 226); refine (Any.strings_shouldUseASCIISet { L with } _ _).mono ?_; rintro e w' ⟨rfl, hw⟩; rw [hw, h8z])
  go_loopg [9, 10] s.size (fun g _ _ wx => ∃ i : Nat, i ≤ s.size ∧ s.size ≤ i + g ∧ wx.heap[w.heap.size]? = some (.stringIter s i) ∧ Below w.heap.size w wx ∧ Lib.NoAny s.data.toList chars.data.toList i)
  case atStart => exact ⟨0, Nat.zero_le _, by omega, World.iter_heap w s 0, (Below.refl _ w).alloc (Nat.le_refl _) _, Lib.NoAny.zero _ _⟩
  case round =>
    obtain ⟨i, his, hig, hit, hbw, hno⟩ := hrel
    have HN : Aside (Lib.NoAny s.data.toList chars.data.toList i) := hno
    clear hno
    by_cases hi : i < s.size
    case neg =>
      obtain rfl : i = s.size := by omega
      have hnx : ∀ ty, (Instr.next (.pointer (some ⟨w.heap.size, 0, none⟩)) true ty).run P wr = _ := fun ty => Lib.run_next_end_at wr w.heap.size s s.size ty hit hi
      go_wp2
      go_ret
      exact ⟨by rw [Lib.indexAny_none (by rw [← Lib.size_eq]; exact HN.out)]; rfl, hbw⟩
    obtain ⟨g, rfl⟩ : ∃ g, gk = g + 1 := ⟨gk - 1, by omega⟩
    obtain ⟨x, hx⟩ : ∃ x : UInt8, s[i]'hi = x := ⟨_, rfl⟩
    have hxl : s.data.toList[i]? = some x := by rw [← hx]; exact Lib.data_getElem? s i hi
    have Hx : Aside (s.data.toList[i]? = some x) := hxl
    clear hxl
    by_cases hx128 : x.toNat < 128
    · have hnx : ∀ ty, (Instr.next (.pointer (some ⟨w.heap.size, 0, none⟩)) true ty).run P wr = _ := fun ty => Lib.run_next_ascii_at wr w.heap.size s i ty hit hi (by rw [hx]; exact hx128)
      rw [hx] at hnx
      clear hx
      have hit2 := Lib.iterAt_heap wr w.heap.size s i (i + 1) hit
      have hbw2 := Lib.below_iterAt hbw (k := w.heap.size) (Nat.le_refl _) s (i + 1)
      obtain ⟨W, hWd⟩ : ∃ W, wr.iterAt w.heap.size s (i + 1) = W := ⟨_, rfl⟩
      rw [hWd] at hnx hit2 hbw2
      have hcon := Lib.contains_iff_indexByte chars.data.toList x
      have hback : ((x.toNat : Int)).toNat.toUInt8 = x := by simp
      cases hin : chars.data.toList.contains x
      · rw [hin] at hcon
        have hlt : ¬ ((0 : Int) ≤ Lib.indexByte chars.data.toList x) := of_decide_eq_false hcon.symm
        clear hcon
        go_wp2_with (go_at_fn (ρ.f 152); refine (Any.strings_IndexRune_ascii { L with } _ _ _ (by omega) (by omega)).mono ?_; rintro e w' ⟨rfl, hw⟩; rw [hw, hback])
        go_roundg g
        case measure => omega
        case rel => exact ⟨i + 1, by omega, by omega, hit2, hbw2, HN.out.succ Hx.out hin⟩
      · rw [hin] at hcon
        have hge : (0 : Int) ≤ Lib.indexByte chars.data.toList x := of_decide_eq_true hcon.symm
        clear hcon
        go_wp2_with (go_at_fn (ρ.f 152); refine (Any.strings_IndexRune_ascii { L with } _ _ _ (by omega) (by omega)).mono ?_; rintro e w' ⟨rfl, hw⟩; rw [hw, hback])
        go_ret
        exact ⟨by rw [Lib.indexAny_hit HN.out Hx.out hin]; rfl, hbw2⟩
    · have hxh : 128 ≤ (s[i]'hi).toNat := by rw [hx]; omega
      have hnx : ∀ ty, (Instr.next (.pointer (some ⟨w.heap.size, 0, none⟩)) true ty).run P wr = _ := fun ty => Lib.run_next_any_at wr w.heap.size s i ty hit hi
      obtain ⟨d1, d2⟩ := decode_high s i hi hxh
      have d4 : (Utf8.decode s i).1 ≤ 1114111 := Lib.rune_le s i
      obtain ⟨d5, d6⟩ := decode_run s i hi hxh
      obtain ⟨R, hR⟩ : ∃ R, (Utf8.decode s i).1 = R := ⟨_, rfl⟩
      obtain ⟨K, hK⟩ : ∃ K, (Utf8.decode s i).2 = K := ⟨_, rfl⟩
      rw [hR, hK] at hnx
      rw [hR] at d1 d4
      rw [hK] at d2 d5 d6
      clear hx hxh
      have HN2 : Aside (Lib.NoAny s.data.toList chars.data.toList (i + K)) := NoAny.run HN.out d6 HC.out
      clear d6
      have hit2 := Lib.iterAt_heap wr w.heap.size s i (i + K) hit
      have hbw2 := Lib.below_iterAt hbw (k := w.heap.size) (Nat.le_refl _) s (i + K)
      obtain ⟨W, hWd⟩ : ∃ W, wr.iterAt w.heap.size s (i + K) = W := ⟨_, rfl⟩
      rw [hWd] at hnx hit2 hbw2
      have hltW : w.heap.size < W.heap.size := (Array.getElem?_eq_some_iff.1 hit2).1
      have cR := IndexRune_high (P := P) (ρ := ρ) { L with } chars (R : Int) W (by omega) (by omega) h3 HC.out
      go_wp2_with (go_at_fn (ρ.f 152); refine cR.mono ?_; rintro e W' ⟨rfl, hbc⟩)
      go_roundg g
      case measure => omega
      case rel => exact ⟨i + K, by omega, by omega, (hbc.block _ hltW).trans hit2, hbw2.trans (hbc.mono hbw2.size), HN2.out⟩
end Go.Proofs.YtbmmdkbinlnogaaDoor.Sx
namespace Go.Proofs.YtbmmdkbinlnogaaDoor.Aw
open Go
set_option linter.unusedSimpArgs false
set_option linter.unusedVariables false
theorem Con.below {P : Program} [Tabs P] {f : Nat} {xs : List Value} {v : Value} (h : ∀ w, Calls P f xs.toArray w fun e w' => e = .returned v ∧ Go.RowKit.Below w.heap.size w w') : Con P f (xs.map .sc) (.sc v) := by
  intro w S vs _ hS hr
  rw [rdL_sc_inv hr]
  refine (h w).mono ?_
  rintro e w' ⟨rfl, hb⟩
  exact ⟨v, S, rfl, ⟨hb.os, hb.tape, hb.output, hb.size, fun k hk _ => hb.block k hk⟩, fun _ h => h, fun _ h => .inl h, fun b hb' => Nat.lt_of_lt_of_le (hS b hb') hb.size, rfl, by simp [Rd]⟩
theorem IndexAny_c [Tabs Tryd.prog] (s cs : List UInt8) (hs : s.length ≤ 1000000) (h2 : 2 ≤ cs.length) (hc : cs.length ≤ 3) (ha : ∀ c ∈ cs, c.toNat < 128) : Con Tryd.prog n_strings_IndexAny [str s, str cs] (int (Lib.indexAny s cs)) := by
  by_cases h8 : 8 < s.length
  · exact IndexAny_long_c s cs h8 hs h2 (by omega) ha
  · exact Con.below (xs := [.string ⟨s.toArray⟩, .string ⟨cs.toArray⟩]) fun w => Sx.IndexAny_short Tryd.lays153 ⟨s.toArray⟩ ⟨cs.toArray⟩ w (by simpa [ByteArray.size] using h2) (by simpa [ByteArray.size] using hc) (by simp [ByteArray.size]; omega) (fun b hb => ha b (by simpa using hb))
def anyOf (s cs : List UInt8) : Bool := cs.any fun c => hasB s c
theorem indexAny_any (cs : List UInt8) : ∀ s : List UInt8, decide (0 ≤ Lib.indexAny s cs) = s.any fun b => cs.contains b
  | [] => rfl
  | b :: s => by
    have ih := indexAny_any cs s
    rw [Lib.indexAny, List.any_cons]
    cases h : cs.contains b
    · have hg := Lib.indexAny_ge cs s
      rw [Bool.false_or, ← ih]
      simp only [Bool.false_eq_true, if_false]
      by_cases h1 : Lib.indexAny s cs = -1
      · rw [h1]; rfl
      · rw [if_neg (by simpa using h1)]
        by_cases h2 : 0 ≤ Lib.indexAny s cs
        · rw [decide_eq_true h2, decide_eq_true (by omega)]
        · omega
    · simp
theorem hasB_any (s : List UInt8) (c : UInt8) : hasB s c = s.contains c := (Lib.contains_iff_indexByte s c).symm
theorem anyOf_eq (s cs : List UInt8) : (s.any fun b => cs.contains b) = anyOf s cs := by
  unfold anyOf
  rw [Bool.eq_iff_iff]
  simp only [List.any_eq_true, hasB_any, List.contains_iff_mem]
  exact ⟨fun ⟨b, h1, h2⟩ => ⟨b, h2, h1⟩, fun ⟨b, h1, h2⟩ => ⟨b, h2, h1⟩⟩
set_option maxRecDepth 100000 in
theorem ContainsAny_c [Tabs Tryd.prog] (s cs : List UInt8) (hs : s.length ≤ 1000000) (h2 : 2 ≤ cs.length) (hc : cs.length ≤ 3) (ha : ∀ c ∈ cs, c.toNat < 128) : Con Tryd.prog n_strings_ContainsAny [str s, str cs] (boo (anyOf s cs)) := by
  refine Con.of' mix Tryd.func55 rfl Tryd.ntmps55 e_strings_ContainsAny r_strings_ContainsAny (by simp) rfl rfl ?_
  unfold s_strings_ContainsAny
  obtain ⟨Z, hZ⟩ : ∃ Z, Z = anyOf s cs := ⟨_, rfl⟩
  rw [← hZ]
  repeat (first | refine wA ?_ | refine wB ?_ | refine wC rfl ?_ | refine wD rfl ?_ | refine wE ?_ | refine wF (by omega) ?_ | ((first | refine wG ?_ | refine wH ?_ | refine wI ?_ | refine wJ ?_ | refine wK ?_ | refine wL ?_); simp (disch := omega) only [wP, wZ, undef, UInt8.reduceToNat, Nat.reduceOr, Nat.reduceAnd, Nat.reduceXor, Nat.reduceDiv, if_pos, if_neg, aStore, frz, AV.flat, ↓reduceIte, ne_eq, reduceCtorEq, Int.reduceToNat, Nat.reduceEqDiff, Nat.reduceAdd, Nat.reduceSub, Nat.reduceMul, Int.reduceAdd, Int.reduceMul, Int.reduceSub, Int.reduceLT, Int.reduceLE, Int.reduceEq, Int.reduceNe, Nat.reduceLeDiff, Nat.reduceLT, Int.reduceNeg, Nat.reducePow, Nat.reduceMod, ByteArray.size]))
  refine goC_p _ (.inl ⟨rfl, IndexAny_c s cs hs h2 hc ha⟩) ?_
  rw [← anyOf_eq, ← indexAny_any] at hZ
  obtain ⟨I, hI⟩ : ∃ I, I = Lib.indexAny s cs := ⟨_, rfl⟩
  rw [← hI] at hZ ⊢
  subst hZ
  repeat (first | refine wA ?_ | refine wB ?_ | refine wC rfl ?_ | refine wD rfl ?_ | refine wE ?_ | refine wF (by omega) ?_ | ((first | refine wG ?_ | refine wH ?_ | refine wI ?_ | refine wJ ?_ | refine wK ?_ | refine wL ?_); simp (disch := omega) only [wP, wZ, undef, UInt8.reduceToNat, Nat.reduceOr, Nat.reduceAnd, Nat.reduceXor, Nat.reduceDiv, if_pos, if_neg, aStore, frz, AV.flat, ↓reduceIte, ne_eq, reduceCtorEq, Int.reduceToNat, Nat.reduceEqDiff, Nat.reduceAdd, Nat.reduceSub, Nat.reduceMul, Int.reduceAdd, Int.reduceMul, Int.reduceSub, Int.reduceLT, Int.reduceLE, Int.reduceEq, Int.reduceNe, Nat.reduceLeDiff, Nat.reduceLT, Int.reduceNeg, Nat.reducePow, Nat.reduceMod, ByteArray.size, boo, ge_iff_le]))
theorem caOk [Tabs Tryd.prog] : CaOk where
  three s hs := by
    have h := ContainsAny_c s [0, 10, 58] (by omega) (by decide) (by decide) (by decide)
    simp only [anyOf, List.any_cons, List.any_nil, Bool.or_false] at h
    exact h
  two s hs := by
    have h := ContainsAny_c s [0, 10] (by omega) (by decide) (by decide) (by decide)
    simp only [anyOf, List.any_cons, List.any_nil, Bool.or_false] at h
    exact h
end Go.Proofs.YtbmmdkbinlnogaaDoor.Aw
