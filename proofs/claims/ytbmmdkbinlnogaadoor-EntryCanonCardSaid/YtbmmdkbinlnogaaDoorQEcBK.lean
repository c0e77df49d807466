/- Parts of the proofs of Ec. -/
import Derived.Test.YtbmmdkbinlnogaaDoorQEcBJ
namespace Go.Proofs.YtbmmdkbinlnogaaDoor.Aw
open Go
set_option linter.unusedSimpArgs false
set_option linter.unusedVariables false
theorem enC_cons {e : Ent} {l : List Ent} : enC (e :: l) = entL e ++ enC l := by simp [enC]
theorem enC_append {l m : List Ent} : enC l ++ enC m = enC (l ++ m) := by simp [enC]
theorem flat_en {l : List Ent} : flat (some 10) (l.map entV) = enC l := by
  induction l with
  | nil => rfl
  | cons p l ih =>
    rw [List.map_cons, enC_cons, ← ih]
    rfl
theorem length_enC {l : List Ent} : (enC l).length = l.length * 10 := by
  induction l with
  | nil => rfl
  | cons p l ih => rw [enC_cons, List.length_append, ih, List.length_cons]; simp only [entL, List.length_cons, List.length_nil]; omega
theorem flatOk_en {l : List Ent} : (∀ y ∈ l.map entV, ∃ xs, y = .agg xs) = True := eq_true fun y hy => by
  obtain ⟨p, _, rfl⟩ := List.mem_map.1 hy
  exact ⟨_, rfl⟩
theorem flat_en' {l : List Ent} : (l.map entV).flatMap (fun x => (cellsA x).getD []) = enC l := flat_en
theorem drop_enC {l : List Ent} {i : Nat} : (enC l).drop (i * 10) = enC (l.drop i) := by
  induction l generalizing i with
  | nil => simp [enC]
  | cons p l ih =>
    cases i with
    | zero => simp
    | succ i =>
      rw [enC_cons, show (i + 1) * 10 = (entL p).length + i * 10 by simp only [entL, List.length_cons, List.length_nil]; omega, List.drop_length_add_append, ih]
      rfl
theorem load_enC {l : List Ent} {i : Nat} (h : i < l.length) : ((enC l).drop (i * 10)).take 10 = entL l[i] := by
  rw [drop_enC, List.drop_eq_getElem_cons h, enC_cons]
  rfl
theorem cell_enC {l : List Ent} {i j : Nat} (h : i < l.length) (hj : j < 10) : (enC l).getD (i * 10 + j) .junk = (entL l[i]).getD j .junk := by
  have e : (enC l).getD (i * 10 + j) .junk = ((enC l).drop (i * 10)).getD j .junk := by simp [List.getD, List.getElem?_drop]
  rw [e, drop_enC, List.drop_eq_getElem_cons h, enC_cons]
  have hl : j < (entL l[i]).length := by simp only [entL, List.length_cons, List.length_nil]; omega
  simp [List.getD, List.getElem?_append_left hl]
theorem store_enC {l : List Ent} {i j : Nat} {v : AV} {e : Ent} (h : i < l.length) (hj : j < 10) (he : (entL l[i]).set j v = entL e) : (enC l).take (i * 10 + j) ++ v :: (enC l).drop (i * 10 + j + 1) = enC (l.set i e) := by
  have hl : i * 10 + j < (enC l).length := by rw [length_enC]; omega
  have e1 : (enC l).take (i * 10 + j) ++ v :: (enC l).drop (i * 10 + j + 1) = (enC l).set (i * 10 + j) v := by rw [List.set_eq_take_append_cons_drop, if_pos hl]
  rw [e1]
  have e2 : enC l = enC (l.take i) ++ (entL l[i] ++ enC (l.drop (i + 1))) := by
    rw [← enC_cons, ← List.drop_eq_getElem_cons h, enC_append, List.take_append_drop]
  have e3 : (enC (l.take i)).length = i * 10 := by rw [length_enC, List.length_take]; omega
  have hl : j < (entL l[i]).length := by simp only [entL, List.length_cons, List.length_nil]; omega
  rw [e2, List.set_append_right _ _ (by omega), e3, Nat.add_sub_cancel_left, List.set_append_left _ _ hl, he, ← enC_cons, enC_append, List.set_eq_take_append_cons_drop, if_pos h]
theorem Con.nilOut {P : Program} [Tabs P] {f : Nat} {ins : List AV} {es : Option Nat} (h : Con P f ins (.sc (.slice none 0 0))) : Con P f ins (.sl true es []) := by
  intro w S vs a b c
  refine (h w S vs a b c).mono ?_
  rintro e w' ⟨v, S', h1, h2, h3, h4, h5, h6, h7⟩
  simp only [Rd] at h7
  subst h7
  refine ⟨_, S', h1, h2, h3, h4, h5, rfl, ?_⟩
  simp only [Rd]
  exact ⟨none, 0, 0, [], rfl, rfl, Nat.le_refl _, by simp [RdL], by simp, fun _ => rfl, fun a h => by cases h⟩
set_option maxRecDepth 100000 in
theorem bytes_Clone_n [Tabs Tryd.prog] : Con Tryd.prog n_bytes_Clone [.sl true none []] (.sc (.slice none 0 0)) := by
  refine Con.of' mix Tryd.func43 rfl Tryd.ntmps43 e_bytes_Clone r_bytes_Clone (by simp) rfl rfl ?_
  unfold s_bytes_Clone
  repeat (first | refine wA ?_ | refine wB ?_ | refine wC rfl ?_ | refine wD rfl ?_ | refine wE ?_ | refine wF (by omega) ?_ | ((first | refine wG ?_ | refine wH ?_ | refine wI ?_ | refine wJ ?_ | refine wK ?_ | refine wL ?_); simp (disch := omega) only [wP, wZ, undef, UInt8.reduceToNat, Nat.reduceOr, Nat.reduceAnd, Nat.reduceXor, Nat.reduceDiv, if_pos, if_neg, aStore, frz, AV.flat, ↓reduceIte, ne_eq, reduceCtorEq, Int.reduceToNat, Nat.reduceEqDiff, Nat.reduceAdd, Nat.reduceSub, Nat.reduceMul, Int.reduceAdd, Int.reduceMul, Int.reduceSub, Int.reduceLT, Int.reduceLE, Int.reduceEq, Int.reduceNe, Nat.reduceLeDiff, Nat.reduceLT, Int.reduceNeg, Nat.reducePow, Nat.reduceMod, ByteArray.size]))
set_option maxRecDepth 100000 in
theorem bytes_Clone_c [Tabs Tryd.prog] (l : List UInt8) (hl : l.length ≤ 10000000) : Con Tryd.prog n_bytes_Clone [.sl false none (l.map u8)] (.sl false none (l.map u8)) := by
  refine Con.of' mix Tryd.func43 rfl Tryd.ntmps43 e_bytes_Clone r_bytes_Clone (by simp) (by simp only [AV.free, AV.free.freeL, free_u8, Bool.and_self]) (by simp only [AV.free, free_u8]) ?_
  unfold s_bytes_Clone
  repeat (first | refine wA ?_ | refine wB ?_ | refine wC rfl ?_ | refine wD rfl ?_ | refine wE ?_ | refine wF (by omega) ?_ | ((first | refine wG ?_ | refine wH ?_ | refine wI ?_ | refine wJ ?_ | refine wK ?_ | refine wL ?_); simp (disch := omega) only [wP, wZ, undef, UInt8.reduceToNat, Nat.reduceOr, Nat.reduceAnd, Nat.reduceXor, Nat.reduceDiv, if_pos, if_neg, aStore, frz, AV.flat, ↓reduceIte, ne_eq, reduceCtorEq, Int.reduceToNat, Nat.reduceEqDiff, Nat.reduceAdd, Nat.reduceSub, Nat.reduceMul, Int.reduceAdd, Int.reduceMul, Int.reduceSub, Int.reduceLT, Int.reduceLE, Int.reduceEq, Int.reduceNe, Nat.reduceLeDiff, Nat.reduceLT, Int.reduceNeg, Nat.reducePow, Nat.reduceMod, ByteArray.size, List.length_map]))
theorem bytes_Clone_a [Tabs Tryd.prog] (nl : Bool) (l : List UInt8) (hnl : nl = true → l = []) (hl : l.length ≤ 10000000) : Con Tryd.prog n_bytes_Clone [.sl nl none (l.map u8)] (.sl nl none (l.map u8)) := by
  cases nl
  · exact bytes_Clone_c l hl
  · obtain rfl := hnl rfl
    exact Con.nilOut bytes_Clone_n
set_option maxRecDepth 100000 in
theorem slices_CloneE_h [Tabs Tryd.prog] (l : List Ent) (hl : l.length ≤ 1000000) : HCon Tryd.prog n_slices_Cloneapi_Entryapi_Entry [.sl false (some 10) (l.map entV)] [] (.own 5 2 (some 10) 0 l.length) [(5, 2, .row false (enC l))] 3 := by
  refine HCon.of' mix Tryd.func42 rfl Tryd.ntmps42 e_slices_Cloneapi_Entryapi_Entry r_slices_Cloneapi_Entryapi_Entry (by simp) ⟨by simp only [AV.gl]; exact glL_of_free _ _ free_ents, trivial⟩ (by simp) ?_
  unfold s_slices_Cloneapi_Entryapi_Entry
  repeat (first | refine wA ?_ | refine wB ?_ | refine wC rfl ?_ | refine wD rfl ?_ | refine wE ?_ | refine wF (by omega) ?_ | ((first | refine wG ?_ | refine wH ?_ | refine wI ?_ | refine wJ ?_ | refine wK ?_ | refine wL ?_); simp (disch := omega) only [wP, wZ, undef, UInt8.reduceToNat, Nat.reduceOr, Nat.reduceAnd, Nat.reduceXor, Nat.reduceDiv, if_pos, if_neg, aStore, frz, AV.flat, ↓reduceIte, ne_eq, reduceCtorEq, Int.reduceToNat, Nat.reduceEqDiff, Nat.reduceAdd, Nat.reduceSub, Nat.reduceMul, Int.reduceAdd, Int.reduceMul, Int.reduceSub, Int.reduceLT, Int.reduceLE, Int.reduceEq, Int.reduceNe, Nat.reduceLeDiff, Nat.reduceLT, Int.reduceNeg, Nat.reducePow, Nat.reduceMod, ByteArray.size, List.length_map, flat_en', flatOk_en, length_enC]))
  done
theorem slices_CloneE_n [Tabs Tryd.prog] : Con Tryd.prog n_slices_Cloneapi_Entryapi_Entry [.sl true (some 10) []] (.sc (.slice none 0 0)) := by
  refine Con.of' mix Tryd.func42 rfl Tryd.ntmps42 e_slices_Cloneapi_Entryapi_Entry r_slices_Cloneapi_Entryapi_Entry (by simp) rfl rfl ?_
  unfold s_slices_Cloneapi_Entryapi_Entry
  repeat (first | refine wA ?_ | refine wB ?_ | refine wC rfl ?_ | refine wD rfl ?_ | refine wE ?_ | refine wF (by omega) ?_ | ((first | refine wG ?_ | refine wH ?_ | refine wI ?_ | refine wJ ?_ | refine wK ?_ | refine wL ?_); simp (disch := omega) only [wP, wZ, undef, UInt8.reduceToNat, Nat.reduceOr, Nat.reduceAnd, Nat.reduceXor, Nat.reduceDiv, if_pos, if_neg, aStore, frz, AV.flat, ↓reduceIte, ne_eq, reduceCtorEq, Int.reduceToNat, Nat.reduceEqDiff, Nat.reduceAdd, Nat.reduceSub, Nat.reduceMul, Int.reduceAdd, Int.reduceMul, Int.reduceSub, Int.reduceLT, Int.reduceLE, Int.reduceEq, Int.reduceNe, Nat.reduceLeDiff, Nat.reduceLT, Int.reduceNeg, Nat.reducePow, Nat.reduceMod, ByteArray.size]))
def nlOk (l : List Ent) : Prop := ∀ e ∈ l, e.nl = true → e.data = []
theorem renL_ents {ρ : Nat → Nat → Nat × Nat} {l : List Ent} : ren.renL ρ (l.map entV) = l.map entV := renL_free ρ _ free_ents
theorem renL_enC {ρ : Nat → Nat → Nat × Nat} {l : List Ent} : ren.renL ρ (enC l) = enC l := renL_free ρ _ free_enC
theorem set_self {l : List Ent} {i : Nat} (h : i < l.length) : l.set i l[i] = l := by simp
set_option maxHeartbeats 1000000 in
set_option maxRecDepth 100000 in
theorem Copy_h [Tabs Tryd.prog] (l : List Ent) (hl : l.length ≤ 1000000) (hn : nlOk l) (hs : ∀ e ∈ l, e.data.length ≤ 10000000) : HCon Tryd.prog n_entry_Copy [.sl false (some 10) (l.map entV)] [] (.own 11 3 (some 10) 0 l.length) [(11, 3, .row false (enC l))] 4 := by
  refine HCon.of' mix Tryd.func23 rfl Tryd.ntmps23 e_entry_Copy r_entry_Copy (by simp) ⟨by simp only [AV.gl]; exact glL_of_free _ _ free_ents, trivial⟩ (by simp) ?_
  unfold s_entry_Copy
  repeat (first | refine wA ?_ | refine wB ?_ | refine wC rfl ?_ | refine wD rfl ?_ | refine wE ?_ | refine wF (by omega) ?_ | ((first | refine wG ?_ | refine wH ?_ | refine wI ?_ | refine wJ ?_ | refine wK ?_ | refine wL ?_); simp (disch := omega) only [wP, wZ, undef, UInt8.reduceToNat, Nat.reduceOr, Nat.reduceAnd, Nat.reduceXor, Nat.reduceDiv, if_pos, if_neg, aStore, frz, AV.flat, ↓reduceIte, ne_eq, reduceCtorEq, Int.reduceToNat, Nat.reduceEqDiff, Nat.reduceAdd, Nat.reduceSub, Nat.reduceMul, Int.reduceAdd, Int.reduceMul, Int.reduceSub, Int.reduceLT, Int.reduceLE, Int.reduceEq, Int.reduceNe, Nat.reduceLeDiff, Nat.reduceLT, Int.reduceNeg, Nat.reducePow, Nat.reduceMod, ByteArray.size]))
  refine goC_h [] 6 (slices_CloneE_h l hl) (by simp) (by simp) (by simp [handOk]) (by simp only [ren.renL, ren, renL_ents]) ?_
  repeat (first | refine wA ?_ | refine wB ?_ | refine wC rfl ?_ | refine wD rfl ?_ | refine wE ?_ | refine wF (by omega) ?_ | ((first | refine wG ?_ | refine wH ?_ | refine wI ?_ | refine wJ ?_ | refine wK ?_ | refine wL ?_); simp (disch := omega) only [wP, wZ, undef, UInt8.reduceToNat, Nat.reduceOr, Nat.reduceAnd, Nat.reduceXor, Nat.reduceDiv, if_pos, if_neg, aStore, frz, AV.flat, ↓reduceIte, ne_eq, reduceCtorEq, Int.reduceToNat, Nat.reduceEqDiff, Nat.reduceAdd, Nat.reduceSub, Nat.reduceMul, Int.reduceAdd, Int.reduceMul, Int.reduceSub, Int.reduceLT, Int.reduceLE, Int.reduceEq, Int.reduceNe, Nat.reduceLeDiff, Nat.reduceLT, Int.reduceNeg, Nat.reducePow, Nat.reduceMod, ByteArray.size, renL_enC]))
  refine SWp.loop (α := Nat) (fun k => mk 24 4 [(3, .own 11 3 (some 10) 0 l.length), (8, int l.length), (9, int k)] [(11, 3, .row false (enC l))])
    (fun k => k ≤ l.length) (fun k => l.length - k) 0 (Nat.zero_le _) (le_mk rfl ?_ ?_ ?_) ?_
  · exact Nat.le_refl _
  iterate 2 (case _ => simp (disch := omega) only [wP, wZ, undef, UInt8.reduceToNat, Nat.reduceOr, Nat.reduceAnd, Nat.reduceXor, Nat.reduceDiv, if_pos, if_neg, aStore, frz, AV.flat, ↓reduceIte, ne_eq, reduceCtorEq, Int.reduceToNat, Nat.reduceEqDiff, Nat.reduceAdd, Nat.reduceSub, Nat.reduceMul, Int.reduceAdd, Int.reduceMul, Int.reduceSub, Int.reduceLT, Int.reduceLE, Int.reduceEq, Int.reduceNe, Nat.reduceLeDiff, Nat.reduceLT, Int.reduceNeg, Nat.reducePow, Nat.reduceMod, ByteArray.size, renL_enC])
  rintro k hk -
  by_cases hk' : k < l.length
  case neg =>
    have d : decide ((k : Int) < (l.length : Int)) = false := decide_eq_false (by omega)
    repeat (first | refine wA ?_ | refine wB ?_ | refine wC rfl ?_ | refine wD rfl ?_ | refine wE ?_ | refine wF (by omega) ?_ | ((first | refine wG ?_ | refine wH ?_ | refine wI ?_ | refine wJ ?_ | refine wK ?_ | refine wL ?_); simp (disch := omega) only [wP, wZ, undef, UInt8.reduceToNat, Nat.reduceOr, Nat.reduceAnd, Nat.reduceXor, Nat.reduceDiv, if_pos, if_neg, aStore, frz, AV.flat, ↓reduceIte, ne_eq, reduceCtorEq, Int.reduceToNat, Nat.reduceEqDiff, Nat.reduceAdd, Nat.reduceSub, Nat.reduceMul, Int.reduceAdd, Int.reduceMul, Int.reduceSub, Int.reduceLT, Int.reduceLE, Int.reduceEq, Int.reduceNe, Nat.reduceLeDiff, Nat.reduceLT, Int.reduceNeg, Nat.reducePow, Nat.reduceMod, ByteArray.size, d]))
    done
  have d : decide ((k : Int) < (l.length : Int)) = true := decide_eq_true (by omega)
  have hc := cell_enC (l := l) (i := k) (j := 9) hk' (by omega)
  have hst := store_enC (l := l) (i := k) (j := 9) (v := .sl l[k].nl none (l[k].data.map u8)) (e := l[k]) hk' (by omega) rfl
  rw [set_self hk'] at hst
  have hc' : (enC l).getD (k * 10 + 9) .junk = .sl l[k].nl none (l[k].data.map u8) := hc
  repeat (first | refine wA ?_ | refine wB ?_ | refine wC rfl ?_ | refine wD rfl ?_ | refine wE ?_ | refine wF (by omega) ?_ | ((first | refine wG ?_ | refine wH ?_ | refine wI ?_ | refine wJ ?_ | refine wK ?_ | refine wL ?_); simp (disch := omega) only [wP, wZ, undef, UInt8.reduceToNat, Nat.reduceOr, Nat.reduceAnd, Nat.reduceXor, Nat.reduceDiv, if_pos, if_neg, aStore, frz, AV.flat, ↓reduceIte, ne_eq, reduceCtorEq, Int.reduceToNat, Nat.reduceEqDiff, Nat.reduceAdd, Nat.reduceSub, Nat.reduceMul, Int.reduceAdd, Int.reduceMul, Int.reduceSub, Int.reduceLT, Int.reduceLE, Int.reduceEq, Int.reduceNe, Nat.reduceLeDiff, Nat.reduceLT, Int.reduceNeg, Nat.reducePow, Nat.reduceMod, ByteArray.size, d, hc', length_enC]))
  refine goC_p _ (.inl ⟨by simp only [AV.free, AV.free.freeL, free_u8, Bool.and_self], bytes_Clone_a l[k].nl l[k].data (hn _ (List.getElem_mem hk')) (hs _ (List.getElem_mem hk'))⟩) ?_
  repeat (first | refine wA ?_ | refine wB ?_ | refine wC rfl ?_ | refine wD rfl ?_ | refine wE ?_ | refine wF (by omega) ?_ | ((first | refine wG ?_ | refine wH ?_ | refine wI ?_ | refine wJ ?_ | refine wK ?_ | refine wL ?_); simp (disch := omega) only [wP, wZ, undef, UInt8.reduceToNat, Nat.reduceOr, Nat.reduceAnd, Nat.reduceXor, Nat.reduceDiv, if_pos, if_neg, aStore, frz, AV.flat, ↓reduceIte, ne_eq, reduceCtorEq, Int.reduceToNat, Nat.reduceEqDiff, Nat.reduceAdd, Nat.reduceSub, Nat.reduceMul, Int.reduceAdd, Int.reduceMul, Int.reduceSub, Int.reduceLT, Int.reduceLE, Int.reduceEq, Int.reduceNe, Nat.reduceLeDiff, Nat.reduceLT, Int.reduceNeg, Nat.reducePow, Nat.reduceMod, ByteArray.size, hst, length_enC]))
  refine At.of (k + 1) (by omega) (by omega) rfl rfl (Nat.le_refl _) ?_ ?_
  iterate 2 (case _ => simp (disch := omega) only [wP, wZ, undef, UInt8.reduceToNat, Nat.reduceOr, Nat.reduceAnd, Nat.reduceXor, Nat.reduceDiv, if_pos, if_neg, aStore, frz, AV.flat, ↓reduceIte, ne_eq, reduceCtorEq, Int.reduceToNat, Nat.reduceEqDiff, Nat.reduceAdd, Nat.reduceSub, Nat.reduceMul, Int.reduceAdd, Int.reduceMul, Int.reduceSub, Int.reduceLT, Int.reduceLE, Int.reduceEq, Int.reduceNe, Nat.reduceLeDiff, Nat.reduceLT, Int.reduceNeg, Nat.reducePow, Nat.reduceMod, ByteArray.size, hst])
end Go.Proofs.YtbmmdkbinlnogaaDoor.Aw
namespace Go.Proofs.YtbmmdkbinlnogaaDoor.Aw
open Go
set_option linter.unusedSimpArgs false
set_option linter.unusedVariables false
def filV (e : Ent) : List UInt8 × Bool := if e.kind = 1 then (e.path, true) else if e.kind = 4 then (e.link, true) else ([], false)
set_option maxHeartbeats 1000000 in
set_option maxRecDepth 100000 in
theorem fileOf_c [Tabs Tryd.prog] (e : Ent) : Con Tryd.prog n_entry_fileOf [entV e] (.tup [str (filV e).1, boo (filV e).2]) := by
  refine Con.of' mix Tryd.func59 rfl Tryd.ntmps59 e_entry_fileOf r_entry_fileOf (by simp) free_entV rfl ?_
  unfold s_entry_fileOf
  obtain ⟨Z, hZ⟩ : ∃ Z, Z = filV e := ⟨_, rfl⟩
  rw [← hZ]
  rw [filV] at hZ
  by_cases h1 : e.kind = 1
  · have d1 : decide (e.kind = 1) = true := decide_eq_true h1
    rw [if_pos h1] at hZ
    subst hZ
    repeat (first | refine wA ?_ | refine wB ?_ | refine wC rfl ?_ | refine wD rfl ?_ | refine wE ?_ | refine wF (by omega) ?_ | ((first | refine wG ?_ | refine wH ?_ | refine wI ?_ | refine wJ ?_ | refine wK ?_ | refine wL ?_); simp (disch := omega) only [wP, wZ, undef, UInt8.reduceToNat, Nat.reduceOr, Nat.reduceAnd, Nat.reduceXor, Nat.reduceDiv, if_pos, if_neg, aStore, frz, AV.flat, ↓reduceIte, ne_eq, reduceCtorEq, Int.reduceToNat, Nat.reduceEqDiff, Nat.reduceAdd, Nat.reduceSub, Nat.reduceMul, Int.reduceAdd, Int.reduceMul, Int.reduceSub, Int.reduceLT, Int.reduceLE, Int.reduceEq, Int.reduceNe, Nat.reduceLeDiff, Nat.reduceLT, Int.reduceNeg, Nat.reducePow, Nat.reduceMod, ByteArray.size, boo, entV, entL, d1]))
  have d1 : decide (e.kind = 1) = false := decide_eq_false h1
  rw [if_neg h1] at hZ
  by_cases h4 : e.kind = 4
  · have d4 : decide (e.kind = 4) = true := decide_eq_true h4
    rw [if_pos h4] at hZ
    subst hZ
    repeat (first | refine wA ?_ | refine wB ?_ | refine wC rfl ?_ | refine wD rfl ?_ | refine wE ?_ | refine wF (by omega) ?_ | ((first | refine wG ?_ | refine wH ?_ | refine wI ?_ | refine wJ ?_ | refine wK ?_ | refine wL ?_); simp (disch := omega) only [wP, wZ, undef, UInt8.reduceToNat, Nat.reduceOr, Nat.reduceAnd, Nat.reduceXor, Nat.reduceDiv, if_pos, if_neg, aStore, frz, AV.flat, ↓reduceIte, ne_eq, reduceCtorEq, Int.reduceToNat, Nat.reduceEqDiff, Nat.reduceAdd, Nat.reduceSub, Nat.reduceMul, Int.reduceAdd, Int.reduceMul, Int.reduceSub, Int.reduceLT, Int.reduceLE, Int.reduceEq, Int.reduceNe, Nat.reduceLeDiff, Nat.reduceLT, Int.reduceNeg, Nat.reducePow, Nat.reduceMod, ByteArray.size, boo, entV, entL, d1, d4]))
  · have d4 : decide (e.kind = 4) = false := decide_eq_false h4
    rw [if_neg h4] at hZ
    subst hZ
    repeat (first | refine wA ?_ | refine wB ?_ | refine wC rfl ?_ | refine wD rfl ?_ | refine wE ?_ | refine wF (by omega) ?_ | ((first | refine wG ?_ | refine wH ?_ | refine wI ?_ | refine wJ ?_ | refine wK ?_ | refine wL ?_); simp (disch := omega) only [wP, wZ, undef, UInt8.reduceToNat, Nat.reduceOr, Nat.reduceAnd, Nat.reduceXor, Nat.reduceDiv, if_pos, if_neg, aStore, frz, AV.flat, ↓reduceIte, ne_eq, reduceCtorEq, Int.reduceToNat, Nat.reduceEqDiff, Nat.reduceAdd, Nat.reduceSub, Nat.reduceMul, Int.reduceAdd, Int.reduceMul, Int.reduceSub, Int.reduceLT, Int.reduceLE, Int.reduceEq, Int.reduceNe, Nat.reduceLeDiff, Nat.reduceLT, Int.reduceNeg, Nat.reducePow, Nat.reduceMod, ByteArray.size, boo, entV, entL, d1, d4]))
end Go.Proofs.YtbmmdkbinlnogaaDoor.Aw
namespace Go.Proofs.YtbmmdkbinlnogaaDoor.Aw
open Go
set_option linter.unusedSimpArgs false
set_option linter.unusedVariables false
def wgt (m : Nat) (e : Ent) : Nat := min e.path.length (m + 1) + min e.link.length (m + 1) + min e.owner.length (m + 1) + min e.group.length (m + 1) + min e.data.length (m + 1)
def lrun (m : Nat) : List Ent → Nat → Nat
  | [], n => n
  | e :: l, n => if n ≤ m then lrun m l (n + wgt m e) else n
def lightV (l : List Ent) (c m : Nat) : Bool := decide (l.length ≤ c) && decide (lrun m l 0 ≤ m)
theorem lrun_ge {m : Nat} : ∀ {l : List Ent} {n : Nat}, n ≤ lrun m l n
  | [], _ => Nat.le_refl _
  | e :: l, n => by
    rw [lrun]
    split
    · exact Nat.le_trans (Nat.le_add_right _ _) lrun_ge
    · exact Nat.le_refl _
theorem lrun_all {m : Nat} : ∀ {l : List Ent} {n : Nat}, lrun m l n ≤ m → ∀ e ∈ l, wgt m e ≤ m
  | [], _, _, e, he => by cases he
  | x :: l, n, h, e, he => by
    rw [lrun] at h
    have h0 : n ≤ m := by
      apply Decidable.byContradiction
      intro h1
      rw [if_neg h1] at h
      omega
    rw [if_pos h0] at h
    rcases List.mem_cons.1 he with rfl | he
    · have := lrun_ge (m := m) (l := l) (n := n + wgt m e)
      omega
    · exact lrun_all h e he
theorem wgt_le {m : Nat} {e : Ent} (h : wgt m e ≤ m) : e.path.length ≤ m ∧ e.link.length ≤ m ∧ e.owner.length ≤ m ∧ e.group.length ≤ m ∧ e.data.length ≤ m := by
  unfold wgt at h
  omega
theorem lrun_step {m : Nat} {l : List Ent} {k n : Nat} (hk : k < l.length) (hn : n ≤ m) : lrun m (l.drop k) n = lrun m (l.drop (k + 1)) (n + wgt m l[k]) := by
  rw [List.drop_eq_getElem_cons hk, lrun, if_pos hn]
theorem lrun_out {m : Nat} {l : List Ent} {n : Nat} (hn : ¬ n ≤ m) : lrun m l n = n := by
  cases l with
  | nil => rfl
  | cons e l => rw [lrun, if_neg hn]
def entB (e : Ent) : Prop := e.path.length ≤ 9223372036854775807 ∧ e.link.length ≤ 9223372036854775807 ∧ e.owner.length ≤ 9223372036854775807 ∧ e.group.length ≤ 9223372036854775807 ∧ e.data.length ≤ 9223372036854775807
set_option maxHeartbeats 4000000 in
set_option maxRecDepth 100000 in
theorem ref_Light_c [Tabs Tryd.prog] (nl : Bool) (l : List Ent) (hl : l.length ≤ 9223372036854775807) (hs : ∀ e ∈ l, entB e) (c m : Nat) (hc : c ≤ 100000) (hm : m ≤ 100000) : Con Tryd.prog n_drayageref07_Light [.sl nl (some 10) (l.map entV), int c, int m] (boo (lightV l c m)) := by
  refine Con.of' mix Tryd.func14 rfl Tryd.ntmps14 e_drayageref07_Light r_drayageref07_Light (by simp) (by simp only [AV.free, AV.free.freeL, free_ents, int, Bool.and_self]) rfl ?_
  unfold s_drayageref07_Light
  obtain ⟨Z, hZ⟩ : ∃ Z, Z = lightV l c m := ⟨_, rfl⟩
  rw [← hZ]
  rw [lightV] at hZ
  by_cases h1 : l.length ≤ c
  case neg =>
    have d1 : decide ((c : Int) < (l.length : Int)) = true := decide_eq_true (by omega)
    rw [decide_eq_false h1, Bool.false_and] at hZ
    subst hZ
    repeat (first | refine wA ?_ | refine wB ?_ | refine wC rfl ?_ | refine wD rfl ?_ | refine wE ?_ | refine wF (by omega) ?_ | ((first | refine wG ?_ | refine wH ?_ | refine wI ?_ | refine wJ ?_ | refine wK ?_ | refine wL ?_); simp (disch := omega) only [wP, wZ, undef, UInt8.reduceToNat, Nat.reduceOr, Nat.reduceAnd, Nat.reduceXor, Nat.reduceDiv, if_pos, if_neg, aStore, frz, AV.flat, ↓reduceIte, ne_eq, reduceCtorEq, Int.reduceToNat, Nat.reduceEqDiff, Nat.reduceAdd, Nat.reduceSub, Nat.reduceMul, Int.reduceAdd, Int.reduceMul, Int.reduceSub, Int.reduceLT, Int.reduceLE, Int.reduceEq, Int.reduceNe, Nat.reduceLeDiff, Nat.reduceLT, Int.reduceNeg, Nat.reducePow, Nat.reduceMod, ByteArray.size, boo, d1, List.length_map]))
  have d1 : decide ((c : Int) < (l.length : Int)) = false := decide_eq_false (by omega)
  rw [decide_eq_true h1, Bool.true_and] at hZ
  repeat (first | refine wA ?_ | refine wB ?_ | refine wC rfl ?_ | refine wD rfl ?_ | refine wE ?_ | refine wF (by omega) ?_ | ((first | refine wG ?_ | refine wH ?_ | refine wI ?_ | refine wJ ?_ | refine wK ?_ | refine wL ?_); simp (disch := omega) only [wP, wZ, undef, UInt8.reduceToNat, Nat.reduceOr, Nat.reduceAnd, Nat.reduceXor, Nat.reduceDiv, if_pos, if_neg, aStore, frz, AV.flat, ↓reduceIte, ne_eq, reduceCtorEq, Int.reduceToNat, Nat.reduceEqDiff, Nat.reduceAdd, Nat.reduceSub, Nat.reduceMul, Int.reduceAdd, Int.reduceMul, Int.reduceSub, Int.reduceLT, Int.reduceLE, Int.reduceEq, Int.reduceNe, Nat.reduceLeDiff, Nat.reduceLT, Int.reduceNeg, Nat.reducePow, Nat.reduceMod, ByteArray.size, boo, d1, List.length_map]))
  refine SWp.loop (α := Nat × Nat) (fun x => mk 78 0 [(0, .sl nl (some 10) (l.map entV)), (2, int m), (7, int x.2), (8, int x.1)] [])
    (fun x => x.1 ≤ l.length ∧ x.2 ≤ 6 * m + 10 ∧ Z = decide (lrun m (l.drop x.1) x.2 ≤ m)) (fun x => l.length - x.1) (0, 0) ⟨Nat.zero_le _, Nat.zero_le _, hZ⟩ (le_mk rfl (Nat.le_refl _) ?_ ?_) ?_
  iterate 2 (case _ => simp (disch := omega) only [wP, wZ, undef, UInt8.reduceToNat, Nat.reduceOr, Nat.reduceAnd, Nat.reduceXor, Nat.reduceDiv, if_pos, if_neg, aStore, frz, AV.flat, ↓reduceIte, ne_eq, reduceCtorEq, Int.reduceToNat, Nat.reduceEqDiff, Nat.reduceAdd, Nat.reduceSub, Nat.reduceMul, Int.reduceAdd, Int.reduceMul, Int.reduceSub, Int.reduceLT, Int.reduceLE, Int.reduceEq, Int.reduceNe, Nat.reduceLeDiff, Nat.reduceLT, Int.reduceNeg, Nat.reducePow, Nat.reduceMod, ByteArray.size])
  rintro ⟨k, n⟩ ⟨hk, hn, hz⟩ -
  simp only at hk hn hz
  by_cases hk' : k < l.length
  case neg =>
    have dk : decide ((k : Int) < (l.length : Int)) = false := decide_eq_false (by omega)
    rw [List.drop_eq_nil_of_le (by omega), lrun] at hz
    subst hz
    have e : decide ((n : Int) ≤ (m : Int)) = decide (n ≤ m) := by simp
    repeat (first | refine wA ?_ | refine wB ?_ | refine wC rfl ?_ | refine wD rfl ?_ | refine wE ?_ | refine wF (by omega) ?_ | ((first | refine wG ?_ | refine wH ?_ | refine wI ?_ | refine wJ ?_ | refine wK ?_ | refine wL ?_); simp (disch := omega) only [wP, wZ, undef, UInt8.reduceToNat, Nat.reduceOr, Nat.reduceAnd, Nat.reduceXor, Nat.reduceDiv, if_pos, if_neg, aStore, frz, AV.flat, ↓reduceIte, ne_eq, reduceCtorEq, Int.reduceToNat, Nat.reduceEqDiff, Nat.reduceAdd, Nat.reduceSub, Nat.reduceMul, Int.reduceAdd, Int.reduceMul, Int.reduceSub, Int.reduceLT, Int.reduceLE, Int.reduceEq, Int.reduceNe, Nat.reduceLeDiff, Nat.reduceLT, Int.reduceNeg, Nat.reducePow, Nat.reduceMod, ByteArray.size, boo, dk, e, List.length_map]))
  have dk : decide ((k : Int) < (l.length : Int)) = true := decide_eq_true (by omega)
  by_cases hm' : n ≤ m
  case neg =>
    have dn : decide ((n : Int) ≤ (m : Int)) = false := decide_eq_false (by omega)
    rw [lrun_out hm', decide_eq_false hm'] at hz
    subst hz
    repeat (first | refine wA ?_ | refine wB ?_ | refine wC rfl ?_ | refine wD rfl ?_ | refine wE ?_ | refine wF (by omega) ?_ | ((first | refine wG ?_ | refine wH ?_ | refine wI ?_ | refine wJ ?_ | refine wK ?_ | refine wL ?_); simp (disch := omega) only [wP, wZ, undef, UInt8.reduceToNat, Nat.reduceOr, Nat.reduceAnd, Nat.reduceXor, Nat.reduceDiv, if_pos, if_neg, aStore, frz, AV.flat, ↓reduceIte, ne_eq, reduceCtorEq, Int.reduceToNat, Nat.reduceEqDiff, Nat.reduceAdd, Nat.reduceSub, Nat.reduceMul, Int.reduceAdd, Int.reduceMul, Int.reduceSub, Int.reduceLT, Int.reduceLE, Int.reduceEq, Int.reduceNe, Nat.reduceLeDiff, Nat.reduceLT, Int.reduceNeg, Nat.reducePow, Nat.reduceMod, ByteArray.size, boo, dk, dn, List.length_map]))
  have dn : decide ((n : Int) ≤ (m : Int)) = true := decide_eq_true (by omega)
  rw [lrun_step hk' hm'] at hz
  obtain ⟨x, hx⟩ : ∃ x, x = l[k] := ⟨_, rfl⟩
  have hgx := getD_ents hk'
  rw [← hx] at hgx hz
  obtain ⟨t1, t2, t3, t4, t5⟩ := hs x (by rw [hx]; exact List.getElem_mem hk')
  have hw : ((wgt m x : Nat) : Int) = min (x.path.length : Int) ((m : Int) + 1) + min (x.link.length : Int) ((m : Int) + 1) + min (x.owner.length : Int) ((m : Int) + 1) + min (x.group.length : Int) ((m : Int) + 1) + min (x.data.length : Int) ((m : Int) + 1) := by
    unfold wgt
    omega
  repeat (first | refine wA ?_ | refine wB ?_ | refine wC rfl ?_ | refine wD rfl ?_ | refine wE ?_ | refine wF (by omega) ?_ | ((first | refine wG ?_ | refine wH ?_ | refine wI ?_ | refine wJ ?_ | refine wK ?_ | refine wL ?_); simp (disch := omega) only [wP, wZ, undef, UInt8.reduceToNat, Nat.reduceOr, Nat.reduceAnd, Nat.reduceXor, Nat.reduceDiv, if_pos, if_neg, aStore, frz, AV.flat, ↓reduceIte, ne_eq, reduceCtorEq, Int.reduceToNat, Nat.reduceEqDiff, Nat.reduceAdd, Nat.reduceSub, Nat.reduceMul, Int.reduceAdd, Int.reduceMul, Int.reduceSub, Int.reduceLT, Int.reduceLE, Int.reduceEq, Int.reduceNe, Nat.reduceLeDiff, Nat.reduceLT, Int.reduceNeg, Nat.reducePow, Nat.reduceMod, ByteArray.size, boo, dk, dn, hgx, entV, entL, List.length_map]))
  have hwl : wgt m x ≤ 5 * m + 5 := by unfold wgt; omega
  refine At.of (k + 1, n + wgt m x) ⟨by simp only; omega, by simp only; omega, hz⟩ (by simp only; omega) rfl rfl (Nat.le_refl _) ?_ ?_
  · obtain ⟨q, hq⟩ : ∃ q, q = n + wgt m x := ⟨_, rfl⟩
    have hqi : (q : Int) = (n : Int) + (wgt m x : Nat) := by omega
    rw [← hq]
    rw [hw] at hqi
    simp (disch := omega) only [wP, wZ, undef, UInt8.reduceToNat, Nat.reduceOr, Nat.reduceAnd, Nat.reduceXor, Nat.reduceDiv, if_pos, if_neg, aStore, frz, AV.flat, ↓reduceIte, ne_eq, reduceCtorEq, Int.reduceToNat, Nat.reduceEqDiff, Nat.reduceAdd, Nat.reduceSub, Nat.reduceMul, Int.reduceAdd, Int.reduceMul, Int.reduceSub, Int.reduceLT, Int.reduceLE, Int.reduceEq, Int.reduceNe, Nat.reduceLeDiff, Nat.reduceLT, Int.reduceNeg, Nat.reducePow, Nat.reduceMod, ByteArray.size, hqi]
    omega
  · simp (disch := omega) only [wP, wZ, undef, UInt8.reduceToNat, Nat.reduceOr, Nat.reduceAnd, Nat.reduceXor, Nat.reduceDiv, if_pos, if_neg, aStore, frz, AV.flat, ↓reduceIte, ne_eq, reduceCtorEq, Int.reduceToNat, Nat.reduceEqDiff, Nat.reduceAdd, Nat.reduceSub, Nat.reduceMul, Int.reduceAdd, Int.reduceMul, Int.reduceSub, Int.reduceLT, Int.reduceLE, Int.reduceEq, Int.reduceNe, Nat.reduceLeDiff, Nat.reduceLT, Int.reduceNeg, Nat.reducePow, Nat.reduceMod, ByteArray.size]
end Go.Proofs.YtbmmdkbinlnogaaDoor.Aw
namespace Go.Proofs.YtbmmdkbinlnogaaDoor.Aw
open Go
set_option linter.unusedSimpArgs false
set_option linter.unusedVariables false
def samB (a b : Ent) : Bool := decide (a.path = b.path) && (decide (a.kind = b.kind) && (alikeB a b && (decide (a.link = b.link) && decide (a.data = b.data))))
def sameL : List Ent → List Ent → Bool
  | [], [] => true
  | a :: l, b :: r => samB a b && sameL l r
  | _, _ => false
theorem sameL_len : ∀ {l r : List Ent}, l.length ≠ r.length → sameL l r = false
  | [], [], h => absurd rfl h
  | [], _ :: _, _ => rfl
  | _ :: _, [], _ => rfl
  | a :: l, b :: r, h => by rw [sameL, sameL_len (fun e => h (by simp [e])), Bool.and_false]
theorem sameL_step {l r : List Ent} {k : Nat} (hk : k < l.length) (hr : k < r.length) : sameL (l.drop k) (r.drop k) = (samB l[k] r[k] && sameL (l.drop (k + 1)) (r.drop (k + 1))) := by
  rw [List.drop_eq_getElem_cons hk, List.drop_eq_getElem_cons hr, sameL]
set_option maxHeartbeats 4000000 in
set_option maxRecDepth 100000 in
theorem ref_Same_c [Tabs Tryd.prog] (nl nr : Bool) (l r : List Ent) (hl : l.length ≤ 1000000) (hr : r.length ≤ 1000000) (hs : ∀ e ∈ l, e.data.length ≤ 10000000) (hs2 : ∀ e ∈ r, e.data.length ≤ 10000000) : Con Tryd.prog n_drayageref07_Same [.sl nl (some 10) (l.map entV), .sl nr (some 10) (r.map entV)] (boo (sameL l r)) := by
  refine Con.of' mix Tryd.func21 rfl Tryd.ntmps21 e_drayageref07_Same r_drayageref07_Same (by simp) (by simp only [AV.free, AV.free.freeL, free_ents, Bool.and_self]) rfl ?_
  unfold s_drayageref07_Same
  obtain ⟨Z, hZ⟩ : ∃ Z, Z = sameL l r := ⟨_, rfl⟩
  rw [← hZ]
  by_cases h1 : l.length = r.length
  case neg =>
    have d1 : decide ((l.length : Int) = (r.length : Int)) = false := decide_eq_false (by omega)
    rw [sameL_len h1] at hZ
    subst hZ
    repeat (first | refine wA ?_ | refine wB ?_ | refine wC rfl ?_ | refine wD rfl ?_ | refine wE ?_ | refine wF (by omega) ?_ | ((first | refine wG ?_ | refine wH ?_ | refine wI ?_ | refine wJ ?_ | refine wK ?_ | refine wL ?_); simp (disch := omega) only [wP, wZ, undef, UInt8.reduceToNat, Nat.reduceOr, Nat.reduceAnd, Nat.reduceXor, Nat.reduceDiv, if_pos, if_neg, aStore, frz, AV.flat, ↓reduceIte, ne_eq, reduceCtorEq, Int.reduceToNat, Nat.reduceEqDiff, Nat.reduceAdd, Nat.reduceSub, Nat.reduceMul, Int.reduceAdd, Int.reduceMul, Int.reduceSub, Int.reduceLT, Int.reduceLE, Int.reduceEq, Int.reduceNe, Nat.reduceLeDiff, Nat.reduceLT, Int.reduceNeg, Nat.reducePow, Nat.reduceMod, ByteArray.size, boo, d1, List.length_map]))
  have d1 : decide ((l.length : Int) = (r.length : Int)) = true := decide_eq_true (by omega)
  repeat (first | refine wA ?_ | refine wB ?_ | refine wC rfl ?_ | refine wD rfl ?_ | refine wE ?_ | refine wF (by omega) ?_ | ((first | refine wG ?_ | refine wH ?_ | refine wI ?_ | refine wJ ?_ | refine wK ?_ | refine wL ?_); simp (disch := omega) only [wP, wZ, undef, UInt8.reduceToNat, Nat.reduceOr, Nat.reduceAnd, Nat.reduceXor, Nat.reduceDiv, if_pos, if_neg, aStore, frz, AV.flat, ↓reduceIte, ne_eq, reduceCtorEq, Int.reduceToNat, Nat.reduceEqDiff, Nat.reduceAdd, Nat.reduceSub, Nat.reduceMul, Int.reduceAdd, Int.reduceMul, Int.reduceSub, Int.reduceLT, Int.reduceLE, Int.reduceEq, Int.reduceNe, Nat.reduceLeDiff, Nat.reduceLT, Int.reduceNeg, Nat.reducePow, Nat.reduceMod, ByteArray.size, boo, d1, List.length_map]))
  refine SWp.loop (α := Nat) (fun k => mk 81 0 [(0, .sl nl (some 10) (l.map entV)), (1, .sl nr (some 10) (r.map entV)), (5, int k)] [])
    (fun k => k ≤ l.length ∧ Z = sameL (l.drop k) (r.drop k)) (fun k => l.length - k) 0 ⟨Nat.zero_le _, hZ⟩ (le_mk rfl (Nat.le_refl _) ?_ ?_) ?_
  iterate 2 (case _ => simp (disch := omega) only [wP, wZ, undef, UInt8.reduceToNat, Nat.reduceOr, Nat.reduceAnd, Nat.reduceXor, Nat.reduceDiv, if_pos, if_neg, aStore, frz, AV.flat, ↓reduceIte, ne_eq, reduceCtorEq, Int.reduceToNat, Nat.reduceEqDiff, Nat.reduceAdd, Nat.reduceSub, Nat.reduceMul, Int.reduceAdd, Int.reduceMul, Int.reduceSub, Int.reduceLT, Int.reduceLE, Int.reduceEq, Int.reduceNe, Nat.reduceLeDiff, Nat.reduceLT, Int.reduceNeg, Nat.reducePow, Nat.reduceMod, ByteArray.size])
  rintro k ⟨hk, hz⟩ -
  by_cases hk' : k < l.length
  case neg =>
    have dk : decide ((k : Int) < (l.length : Int)) = false := decide_eq_false (by omega)
    rw [List.drop_eq_nil_of_le (by omega), List.drop_eq_nil_of_le (by omega)] at hz
    have : Z = true := hz
    subst this
    repeat (first | refine wA ?_ | refine wB ?_ | refine wC rfl ?_ | refine wD rfl ?_ | refine wE ?_ | refine wF (by omega) ?_ | ((first | refine wG ?_ | refine wH ?_ | refine wI ?_ | refine wJ ?_ | refine wK ?_ | refine wL ?_); simp (disch := omega) only [wP, wZ, undef, UInt8.reduceToNat, Nat.reduceOr, Nat.reduceAnd, Nat.reduceXor, Nat.reduceDiv, if_pos, if_neg, aStore, frz, AV.flat, ↓reduceIte, ne_eq, reduceCtorEq, Int.reduceToNat, Nat.reduceEqDiff, Nat.reduceAdd, Nat.reduceSub, Nat.reduceMul, Int.reduceAdd, Int.reduceMul, Int.reduceSub, Int.reduceLT, Int.reduceLE, Int.reduceEq, Int.reduceNe, Nat.reduceLeDiff, Nat.reduceLT, Int.reduceNeg, Nat.reducePow, Nat.reduceMod, ByteArray.size, boo, dk, List.length_map]))
  have dk : decide ((k : Int) < (l.length : Int)) = true := decide_eq_true (by omega)
  have hk2 : k < r.length := by omega
  rw [sameL_step hk' hk2] at hz
  have hg1 := getD_ents hk'
  have hg2 := getD_ents hk2
  have t1 := hs l[k] (List.getElem_mem hk')
  have t2 := hs2 r[k] (List.getElem_mem hk2)
  obtain ⟨a, ha⟩ : ∃ a, a = l[k] := ⟨_, rfl⟩
  obtain ⟨b, hb⟩ : ∃ b, b = r[k] := ⟨_, rfl⟩
  rw [← ha] at hg1 hz t1
  rw [← hb] at hg2 hz t2
  rw [samB] at hz
  by_cases c1 : a.path = b.path
  case neg =>
    have v1 : decide (a.path = b.path) = false := decide_eq_false c1
    rw [v1, Bool.false_and, Bool.false_and] at hz
    subst hz
    repeat (first | refine wA ?_ | refine wB ?_ | refine wC rfl ?_ | refine wD rfl ?_ | refine wE ?_ | refine wF (by omega) ?_ | ((first | refine wG ?_ | refine wH ?_ | refine wI ?_ | refine wJ ?_ | refine wK ?_ | refine wL ?_); simp (disch := omega) only [wP, wZ, undef, UInt8.reduceToNat, Nat.reduceOr, Nat.reduceAnd, Nat.reduceXor, Nat.reduceDiv, if_pos, if_neg, aStore, frz, AV.flat, ↓reduceIte, ne_eq, reduceCtorEq, Int.reduceToNat, Nat.reduceEqDiff, Nat.reduceAdd, Nat.reduceSub, Nat.reduceMul, Int.reduceAdd, Int.reduceMul, Int.reduceSub, Int.reduceLT, Int.reduceLE, Int.reduceEq, Int.reduceNe, Nat.reduceLeDiff, Nat.reduceLT, Int.reduceNeg, Nat.reducePow, Nat.reduceMod, ByteArray.size, boo, dk, hg1, hg2, entV, entL, v1, List.length_map]))
  have v1 : decide (a.path = b.path) = true := decide_eq_true c1
  rw [v1, Bool.true_and] at hz
  by_cases c2 : a.kind = b.kind
  case neg =>
    have v2 : decide (a.kind = b.kind) = false := decide_eq_false c2
    rw [v2, Bool.false_and, Bool.false_and] at hz
    subst hz
    repeat (first | refine wA ?_ | refine wB ?_ | refine wC rfl ?_ | refine wD rfl ?_ | refine wE ?_ | refine wF (by omega) ?_ | ((first | refine wG ?_ | refine wH ?_ | refine wI ?_ | refine wJ ?_ | refine wK ?_ | refine wL ?_); simp (disch := omega) only [wP, wZ, undef, UInt8.reduceToNat, Nat.reduceOr, Nat.reduceAnd, Nat.reduceXor, Nat.reduceDiv, if_pos, if_neg, aStore, frz, AV.flat, ↓reduceIte, ne_eq, reduceCtorEq, Int.reduceToNat, Nat.reduceEqDiff, Nat.reduceAdd, Nat.reduceSub, Nat.reduceMul, Int.reduceAdd, Int.reduceMul, Int.reduceSub, Int.reduceLT, Int.reduceLE, Int.reduceEq, Int.reduceNe, Nat.reduceLeDiff, Nat.reduceLT, Int.reduceNeg, Nat.reducePow, Nat.reduceMod, ByteArray.size, boo, dk, hg1, hg2, entV, entL, v1, v2, List.length_map]))
  have v2 : decide (a.kind = b.kind) = true := decide_eq_true c2
  rw [v2, Bool.true_and] at hz
  repeat (first | refine wA ?_ | refine wB ?_ | refine wC rfl ?_ | refine wD rfl ?_ | refine wE ?_ | refine wF (by omega) ?_ | ((first | refine wG ?_ | refine wH ?_ | refine wI ?_ | refine wJ ?_ | refine wK ?_ | refine wL ?_); simp (disch := omega) only [wP, wZ, undef, UInt8.reduceToNat, Nat.reduceOr, Nat.reduceAnd, Nat.reduceXor, Nat.reduceDiv, if_pos, if_neg, aStore, frz, AV.flat, ↓reduceIte, ne_eq, reduceCtorEq, Int.reduceToNat, Nat.reduceEqDiff, Nat.reduceAdd, Nat.reduceSub, Nat.reduceMul, Int.reduceAdd, Int.reduceMul, Int.reduceSub, Int.reduceLT, Int.reduceLE, Int.reduceEq, Int.reduceNe, Nat.reduceLeDiff, Nat.reduceLT, Int.reduceNeg, Nat.reducePow, Nat.reduceMod, ByteArray.size, boo, dk, hg1, hg2, entV, entL, v1, v2, List.length_map]))
  refine goC_p _ (.inl ⟨by simp only [AV.free, AV.free.freeL, free_u8, Bool.and_self], ref_alike_c a b⟩) ?_
  cases c3 : alikeB a b
  · rw [c3, Bool.false_and, Bool.false_and] at hz
    subst hz
    repeat (first | refine wA ?_ | refine wB ?_ | refine wC rfl ?_ | refine wD rfl ?_ | refine wE ?_ | refine wF (by omega) ?_ | ((first | refine wG ?_ | refine wH ?_ | refine wI ?_ | refine wJ ?_ | refine wK ?_ | refine wL ?_); simp (disch := omega) only [wP, wZ, undef, UInt8.reduceToNat, Nat.reduceOr, Nat.reduceAnd, Nat.reduceXor, Nat.reduceDiv, if_pos, if_neg, aStore, frz, AV.flat, ↓reduceIte, ne_eq, reduceCtorEq, Int.reduceToNat, Nat.reduceEqDiff, Nat.reduceAdd, Nat.reduceSub, Nat.reduceMul, Int.reduceAdd, Int.reduceMul, Int.reduceSub, Int.reduceLT, Int.reduceLE, Int.reduceEq, Int.reduceNe, Nat.reduceLeDiff, Nat.reduceLT, Int.reduceNeg, Nat.reducePow, Nat.reduceMod, ByteArray.size, boo]))
  rw [c3, Bool.true_and] at hz
  by_cases c4 : a.link = b.link
  case neg =>
    have v4 : decide (a.link = b.link) = false := decide_eq_false c4
    rw [v4, Bool.false_and, Bool.false_and] at hz
    subst hz
    repeat (first | refine wA ?_ | refine wB ?_ | refine wC rfl ?_ | refine wD rfl ?_ | refine wE ?_ | refine wF (by omega) ?_ | ((first | refine wG ?_ | refine wH ?_ | refine wI ?_ | refine wJ ?_ | refine wK ?_ | refine wL ?_); simp (disch := omega) only [wP, wZ, undef, UInt8.reduceToNat, Nat.reduceOr, Nat.reduceAnd, Nat.reduceXor, Nat.reduceDiv, if_pos, if_neg, aStore, frz, AV.flat, ↓reduceIte, ne_eq, reduceCtorEq, Int.reduceToNat, Nat.reduceEqDiff, Nat.reduceAdd, Nat.reduceSub, Nat.reduceMul, Int.reduceAdd, Int.reduceMul, Int.reduceSub, Int.reduceLT, Int.reduceLE, Int.reduceEq, Int.reduceNe, Nat.reduceLeDiff, Nat.reduceLT, Int.reduceNeg, Nat.reducePow, Nat.reduceMod, ByteArray.size, boo, hg1, hg2, entV, entL, v4, List.length_map]))
  have v4 : decide (a.link = b.link) = true := decide_eq_true c4
  rw [v4, Bool.true_and] at hz
  by_cases c5 : a.data = b.data
  case neg =>
    have v5 : decide (a.data = b.data) = false := decide_eq_false c5
    rw [v5, Bool.false_and] at hz
    subst hz
    repeat (first | refine wA ?_ | refine wB ?_ | refine wC rfl ?_ | refine wD rfl ?_ | refine wE ?_ | refine wF (by omega) ?_ | ((first | refine wG ?_ | refine wH ?_ | refine wI ?_ | refine wJ ?_ | refine wK ?_ | refine wL ?_); simp (disch := omega) only [wP, wZ, undef, UInt8.reduceToNat, Nat.reduceOr, Nat.reduceAnd, Nat.reduceXor, Nat.reduceDiv, if_pos, if_neg, aStore, frz, AV.flat, ↓reduceIte, ne_eq, reduceCtorEq, Int.reduceToNat, Nat.reduceEqDiff, Nat.reduceAdd, Nat.reduceSub, Nat.reduceMul, Int.reduceAdd, Int.reduceMul, Int.reduceSub, Int.reduceLT, Int.reduceLE, Int.reduceEq, Int.reduceNe, Nat.reduceLeDiff, Nat.reduceLT, Int.reduceNeg, Nat.reducePow, Nat.reduceMod, ByteArray.size, boo, hg1, hg2, entV, entL, v4, v5, List.length_map]))
    done
  have v5 : decide (a.data = b.data) = true := decide_eq_true c5
  rw [v5, Bool.true_and] at hz
  repeat (first | refine wA ?_ | refine wB ?_ | refine wC rfl ?_ | refine wD rfl ?_ | refine wE ?_ | refine wF (by omega) ?_ | ((first | refine wG ?_ | refine wH ?_ | refine wI ?_ | refine wJ ?_ | refine wK ?_ | refine wL ?_); simp (disch := omega) only [wP, wZ, undef, UInt8.reduceToNat, Nat.reduceOr, Nat.reduceAnd, Nat.reduceXor, Nat.reduceDiv, if_pos, if_neg, aStore, frz, AV.flat, ↓reduceIte, ne_eq, reduceCtorEq, Int.reduceToNat, Nat.reduceEqDiff, Nat.reduceAdd, Nat.reduceSub, Nat.reduceMul, Int.reduceAdd, Int.reduceMul, Int.reduceSub, Int.reduceLT, Int.reduceLE, Int.reduceEq, Int.reduceNe, Nat.reduceLeDiff, Nat.reduceLT, Int.reduceNeg, Nat.reducePow, Nat.reduceMod, ByteArray.size, boo, hg1, hg2, entV, entL, v4, v5, List.length_map]))
  refine At.of (k + 1) ⟨by omega, hz⟩ (by omega) rfl rfl (Nat.le_refl _) ?_ ?_
  iterate 2 (case _ => simp (disch := omega) only [wP, wZ, undef, UInt8.reduceToNat, Nat.reduceOr, Nat.reduceAnd, Nat.reduceXor, Nat.reduceDiv, if_pos, if_neg, aStore, frz, AV.flat, ↓reduceIte, ne_eq, reduceCtorEq, Int.reduceToNat, Nat.reduceEqDiff, Nat.reduceAdd, Nat.reduceSub, Nat.reduceMul, Int.reduceAdd, Int.reduceMul, Int.reduceSub, Int.reduceLT, Int.reduceLE, Int.reduceEq, Int.reduceNe, Nat.reduceLeDiff, Nat.reduceLT, Int.reduceNeg, Nat.reducePow, Nat.reduceMod, ByteArray.size])
end Go.Proofs.YtbmmdkbinlnogaaDoor.Aw
namespace Go.Proofs.YtbmmdkbinlnogaaDoor.Aw
open Go
set_option linter.unusedSimpArgs false
set_option linter.unusedVariables false
def rgtL (e : Ent) : List AV := [int e.mode, int e.uid, int e.gid, str e.owner, str e.group, int e.mtime]
def inI (n : Int) : Prop := -9223372036854775808 ≤ n ∧ n ≤ 9223372036854775807
def entI (e : Ent) : Prop := inI e.mode ∧ inI e.uid ∧ inI e.gid ∧ inI e.mtime
set_option maxHeartbeats 1000000 in
set_option maxRecDepth 100000 in
theorem rightsOf_c [Tabs Tryd.prog] (e : Ent) : Con Tryd.prog n_entry_rightsOf [entV e] (.agg (rgtL e)) := by
  refine Con.of' mix Tryd.func49 rfl Tryd.ntmps49 e_entry_rightsOf r_entry_rightsOf (by simp) free_entV rfl ?_
  unfold s_entry_rightsOf
  repeat (first | refine wA ?_ | refine wB ?_ | refine wC rfl ?_ | refine wD rfl ?_ | refine wE ?_ | refine wF (by omega) ?_ | ((first | refine wG ?_ | refine wH ?_ | refine wI ?_ | refine wJ ?_ | refine wK ?_ | refine wL ?_); simp (disch := omega) only [wP, wZ, undef, UInt8.reduceToNat, Nat.reduceOr, Nat.reduceAnd, Nat.reduceXor, Nat.reduceDiv, if_pos, if_neg, aStore, frz, AV.flat, ↓reduceIte, ne_eq, reduceCtorEq, Int.reduceToNat, Nat.reduceEqDiff, Nat.reduceAdd, Nat.reduceSub, Nat.reduceMul, Int.reduceAdd, Int.reduceMul, Int.reduceSub, Int.reduceLT, Int.reduceLE, Int.reduceEq, Int.reduceNe, Nat.reduceLeDiff, Nat.reduceLT, Int.reduceNeg, Nat.reducePow, Nat.reduceMod, ByteArray.size, entV, entL, rgtL]))
theorem str_inj {a b : List UInt8} (h : str a = str b) : a = b := by
  simp only [str, AV.sc.injEq, Value.string.injEq, ByteArray.mk.injEq] at h
  simpa using congrArg Array.toList h
theorem int_inj {a b : Int} (h : int a = int b) : a = b := by simpa [int] using h
theorem eqB_rgt {a b : Ent} : eqB (.agg (rgtL a)) (.agg (rgtL b)) = alikeB a b := by
  cases h : alikeB a b
  · refine eqB_f (fun e => ?_)
    simp only [rgtL, AV.agg.injEq, List.cons.injEq, and_true] at e
    obtain ⟨e1, e2, e3, e4, e5, e6⟩ := e
    have : alikeB a b = true := by
      simp only [alikeB, int_inj e1, int_inj e2, int_inj e3, str_inj e4, str_inj e5, int_inj e6, decide_true, Bool.and_self]
    rw [this] at h
    cases h
  · refine eqB_t ?_
    simp only [alikeB, Bool.and_eq_true, decide_eq_true_eq] at h
    obtain ⟨e1, e2, e3, e4, e5, e6⟩ := h
    simp only [rgtL, e1, e2, e3, e4, e5, e6]
theorem like_rgt {e : Ent} (h : entI e) (h1 : e.owner.length ≤ 1000000) (h2 : e.group.length ≤ 1000000) : likeA (.agg #[.int .i64 0, .int .i64 0, .int .i64 0, .string ⟨#[]⟩, .string ⟨#[]⟩, .int .i64 0]) (.agg (rgtL e)) = True := by
  have k1 : IntKind.i64.min = -9223372036854775808 := rfl
  have k2 : IntKind.i64.max = 9223372036854775807 := rfl
  obtain ⟨⟨_, _⟩, ⟨_, _⟩, ⟨_, _⟩, ⟨_, _⟩⟩ := h
  refine eq_true ?_
  simp only [rgtL, int, str, likeA, likeAL, likeA1, k1, k2, and_true, true_and, ByteArray.size, List.size_toArray]
  omega
end Go.Proofs.YtbmmdkbinlnogaaDoor.Aw
namespace Go.Proofs.YtbmmdkbinlnogaaDoor.Aw
open Go
set_option linter.unusedSimpArgs false
set_option linter.unusedVariables false
end Go.Proofs.YtbmmdkbinlnogaaDoor.Aw
namespace Go.Proofs.YtbmmdkbinlnogaaDoor.Aw
open Go
set_option linter.unusedSimpArgs false
set_option linter.unusedVariables false
def enM (e : Ent) : AV := .tup [str e.path, entV e]
def upM (p : List UInt8) : AV := .tup [str p, .agg []]
theorem str_eq {a b : List UInt8} : (str a = str b) = (a = b) := propext ⟨str_inj, fun h => by rw [h]⟩
def findE (p : List UInt8) : List Ent → Option Ent
  | [] => none
  | e :: M => if p = e.path then some e else findE p M
theorem mfind_enM {p : List UInt8} : ∀ {M : List Ent}, mfind (.sc (.string ⟨p.toArray⟩)) (M.map enM) = (findE p M).map entV
  | [] => rfl
  | e :: M => by
    rw [List.map_cons, enM, mfind, findE, show (AV.sc (.string ⟨p.toArray⟩) = str e.path) = (p = e.path) from str_eq]
    by_cases h : p = e.path
    · rw [if_pos h, if_pos h]; rfl
    · rw [if_neg h, if_neg h]; exact mfind_enM
theorem mfind_upM {p : List UInt8} : ∀ {U : List (List UInt8)}, mfind (.sc (.string ⟨p.toArray⟩)) (U.map upM) = if p ∈ U then some (.agg []) else none
  | [] => by simp [mfind]
  | q :: U => by
    rw [List.map_cons, upM, mfind, show (AV.sc (.string ⟨p.toArray⟩) = str q) = (p = q) from str_eq, mfind_upM]
    by_cases h : p = q
    · rw [if_pos h, if_pos (by simp [h])]
    · rw [if_neg h]
      simp [h]
theorem mput_enM {e : Ent} : ∀ {M : List Ent}, findE e.path M = none → mput (.sc (.string ⟨e.path.toArray⟩)) (entV e) (M.map enM) = (M ++ [e]).map enM
  | [], _ => rfl
  | x :: M, h => by
    rw [findE] at h
    by_cases c : e.path = x.path
    · rw [if_pos c] at h
      cases h
    · rw [if_neg c] at h
      rw [List.map_cons, enM, mput, show (AV.sc (.string ⟨e.path.toArray⟩) = str x.path) = (e.path = x.path) from str_eq, if_neg c, mput_enM h]
      rfl
def putU (p : List UInt8) (U : List (List UInt8)) : List (List UInt8) := if p ∈ U then U else U ++ [p]
theorem mput_upM {p : List UInt8} : ∀ {U : List (List UInt8)}, mput (.sc (.string ⟨p.toArray⟩)) (.agg []) (U.map upM) = (putU p U).map upM
  | [] => rfl
  | q :: U => by
    rw [List.map_cons, upM, mput, show (AV.sc (.string ⟨p.toArray⟩) = str q) = (p = q) from str_eq]
    by_cases c : p = q
    · rw [if_pos c, putU, if_pos (by simp [c])]
      rfl
    · rw [if_neg c, mput_upM, putU, putU]
      by_cases d : p ∈ U
      · rw [if_pos d, if_pos (by simp [d])]
        rfl
      · rw [if_neg d, if_neg (by simp [c, d])]
        rfl
theorem like_str {p : List UInt8} (h : p.length ≤ 1000000) : likeA (.string ⟨#[]⟩) (.sc (.string ⟨p.toArray⟩)) = True := by
  refine eq_true ?_
  simp only [likeA, likeA1, ByteArray.size, List.size_toArray]
  omega
theorem ents_enM : ∀ {M : List Ent}, (∀ e ∈ M, e.path.length ≤ 1000000) → entsOk (.string ⟨#[]⟩) (M.map enM) = True
  | [], _ => eq_true trivial
  | e :: M, h => by
    refine eq_true ⟨?_, of_eq_true (ents_enM (fun x hx => h x (by simp [hx])))⟩
    exact of_eq_true (like_str (h e (by simp)))
theorem ents_upM : ∀ {U : List (List UInt8)}, (∀ p ∈ U, p.length ≤ 1000000) → entsOk (.string ⟨#[]⟩) (U.map upM) = True
  | [], _ => eq_true trivial
  | p :: U, h => by
    refine eq_true ⟨?_, of_eq_true (ents_upM (fun x hx => h x (by simp [hx])))⟩
    exact of_eq_true (like_str (h p (by simp)))
theorem free_enM {M : List Ent} : AV.free.freeL (M.map enM) = true := freeL_iff.2 fun x hx => by
  obtain ⟨e, _, rfl⟩ := List.mem_map.1 hx
  simp only [enM, entV, entL, AV.free, AV.free.freeL, str, int, free_u8, Bool.and_self]
theorem free_upM {U : List (List UInt8)} : AV.free.freeL (U.map upM) = true := freeL_iff.2 fun x hx => by
  obtain ⟨e, _, rfl⟩ := List.mem_map.1 hx; rfl
abbrev ahI (M : List Ent) (U : List (List UInt8)) : List AO := [.row false [.tup (M.map enM)], .row false [.tup (U.map upM)]]
abbrev ahO (M : List Ent) (U : List (List UInt8)) : List (Nat × Nat × AO) := [(1000, 0, .row false [.tup (M.map enM)]), (1001, 0, .row false [.tup (U.map upM)])]
theorem ah_gl {M : List Ent} {U : List (List UInt8)} : ∀ n cells, AO.row n cells ∈ ahI M U → AV.gl.glL 1 cells := by
  intro n cells h
  simp only [List.mem_cons, AO.row.injEq, List.not_mem_nil, or_false] at h
  obtain ⟨-, rfl⟩ | ⟨-, rfl⟩ := h
  · simp only [AV.gl.glL, AV.gl, and_true]
    exact glL_of_free _ _ free_enM
  · simp only [AV.gl.glL, AV.gl, and_true]
    exact glL_of_free _ _ free_upM
theorem ent_gl {c : Nat} {e : Ent} : AV.gl.glL c [entV e] := glL_of_free _ _ free_entV
set_option maxHeartbeats 1000000 in
set_option maxRecDepth 100000 in
theorem isAboveOne_h [Tabs Tryd.prog] (M : List Ent) (U : List (List UInt8)) (hM : ∀ e ∈ M, e.path.length ≤ 1000000) (hU : ∀ p ∈ U, p.length ≤ 1000000) (e : Ent) (he : e.path.length ≤ 1000000) :
    HCon Tryd.prog n_entry_ahead_isAboveOne [.agg [.mp 1000 0, .mp 1001 0], entV e] (ahI M U) (boo (decide (e.path ∈ U) && !decide (e.kind = 2))) (ahO M U) 5 := by
  refine HCon.of' mix Tryd.func51 rfl Tryd.ntmps51 e_entry_ahead_isAboveOne r_entry_ahead_isAboveOne (by simp) ⟨by simp [AV.gl, AV.gl.glL], ent_gl⟩ ah_gl ?_
  unfold s_entry_ahead_isAboveOne
  obtain ⟨Z, hZ⟩ : ∃ Z, Z = (decide (e.path ∈ U) && !decide (e.kind = 2)) := ⟨_, rfl⟩
  rw [← hZ]
  have hf := mfind_upM (p := e.path) (U := U)
  have hk := like_str he
  have hu := ents_upM hU
  have z0 : zeroA (.agg #[]) = .agg [] := rfl
  by_cases h1 : e.path ∈ U
  · rw [if_pos h1] at hf
    rw [decide_eq_true h1, Bool.true_and] at hZ
    subst hZ
    repeat (first | refine wA ?_ | refine wB ?_ | refine wC rfl ?_ | refine wD rfl ?_ | refine wE ?_ | refine wF (by omega) ?_ | ((first | refine wG ?_ | refine wH ?_ | refine wI ?_ | refine wJ ?_ | refine wK ?_ | refine wL ?_); simp (disch := omega) only [wP, wZ, undef, UInt8.reduceToNat, Nat.reduceOr, Nat.reduceAnd, Nat.reduceXor, Nat.reduceDiv, if_pos, if_neg, aStore, frz, AV.flat, ↓reduceIte, ne_eq, reduceCtorEq, Int.reduceToNat, Nat.reduceEqDiff, Nat.reduceAdd, Nat.reduceSub, Nat.reduceMul, Int.reduceAdd, Int.reduceMul, Int.reduceSub, Int.reduceLT, Int.reduceLE, Int.reduceEq, Int.reduceNe, Nat.reduceLeDiff, Nat.reduceLT, Int.reduceNeg, Nat.reducePow, Nat.reduceMod, ByteArray.size, boo, entV, entL, hf, hk, hu, Option.isSome_some]))
    done
  · rw [if_neg h1] at hf
    rw [decide_eq_false h1, Bool.false_and] at hZ
    subst hZ
    repeat (first | refine wA ?_ | refine wB ?_ | refine wC rfl ?_ | refine wD rfl ?_ | refine wE ?_ | refine wF (by omega) ?_ | ((first | refine wG ?_ | refine wH ?_ | refine wI ?_ | refine wJ ?_ | refine wK ?_ | refine wL ?_); simp (disch := omega) only [wP, wZ, undef, UInt8.reduceToNat, Nat.reduceOr, Nat.reduceAnd, Nat.reduceXor, Nat.reduceDiv, if_pos, if_neg, aStore, frz, AV.flat, ↓reduceIte, ne_eq, reduceCtorEq, Int.reduceToNat, Nat.reduceEqDiff, Nat.reduceAdd, Nat.reduceSub, Nat.reduceMul, Int.reduceAdd, Int.reduceMul, Int.reduceSub, Int.reduceLT, Int.reduceLE, Int.reduceEq, Int.reduceNe, Nat.reduceLeDiff, Nat.reduceLT, Int.reduceNeg, Nat.reducePow, Nat.reduceMod, ByteArray.size, boo, entV, entL, hf, hk, hu, Option.isSome_none, z0]))
    done
end Go.Proofs.YtbmmdkbinlnogaaDoor.Aw
namespace Go.Proofs.YtbmmdkbinlnogaaDoor.Aw
open Go
set_option linter.unusedSimpArgs false
set_option linter.unusedVariables false
abbrev Fi := List (List UInt8 × Nat)
def fiM (p : List UInt8 × Nat) : AV := .tup [str p.1, int p.2]
def findF (p : List UInt8) : Fi → Option Nat
  | [] => none
  | e :: M => if p = e.1 then some e.2 else findF p M
theorem mfind_fi {p : List UInt8} : ∀ {M : Fi}, mfind (.sc (.string ⟨p.toArray⟩)) (M.map fiM) = (findF p M).map fun (i : Nat) => int (i : Int)
  | [] => rfl
  | e :: M => by
    rw [List.map_cons, fiM, mfind, findF, show (AV.sc (.string ⟨p.toArray⟩) = str e.1) = (p = e.1) from str_eq]
    by_cases h : p = e.1
    · rw [if_pos h, if_pos h]; rfl
    · rw [if_neg h, if_neg h]; exact mfind_fi
theorem mput_fi {p : List UInt8} {i : Nat} : ∀ {M : Fi}, findF p M = none → mput (.sc (.string ⟨p.toArray⟩)) (.sc (.int .i64 i)) (M.map fiM) = (M ++ [(p, i)]).map fiM
  | [], _ => rfl
  | x :: M, h => by
    rw [findF] at h
    by_cases c : p = x.1
    · rw [if_pos c] at h
      cases h
    · rw [if_neg c] at h
      rw [List.map_cons, fiM, mput, show (AV.sc (.string ⟨p.toArray⟩) = str x.1) = (p = x.1) from str_eq, if_neg c, mput_fi h]
      rfl
theorem ents_fi : ∀ {M : Fi}, (∀ e ∈ M, e.1.length ≤ 1000000) → entsOk (.string ⟨#[]⟩) (M.map fiM) = True
  | [], _ => eq_true trivial
  | e :: M, h => by
    refine eq_true ⟨?_, of_eq_true (ents_fi (fun x hx => h x (by simp [hx])))⟩
    exact of_eq_true (like_str (h e (by simp)))
theorem findF_mem {p : List UInt8} {i : Nat} : ∀ {M : Fi}, findF p M = some i → (p, i) ∈ M
  | e :: M, h => by
    rw [findF] at h
    by_cases c : p = e.1
    · rw [if_pos c] at h
      cases h
      subst c
      simp
    · rw [if_neg c] at h
      exact List.mem_cons_of_mem _ (findF_mem h)
instance : Inhabited Ent := ⟨⟨[], 0, 0, 0, 0, [], [], 0, [], true, []⟩⟩
def asReg (e f : Ent) : Ent := { e with kind := 1, link := [], nl := f.nl, data := f.data }
def asHard (e : Ent) (p : List UInt8) : Ent := { e with kind := 4, link := p, nl := true, data := [] }
def regS (L : List Ent) (F : Fi) (i : Nat) : List Ent × Fi :=
  if (filV (L.getD i default)).2 then
    match findF (filV (L.getD i default)).1 F with
    | none => (L, F ++ [((filV (L.getD i default)).1, i)])
    | some m => ((if (L.getD i default).kind = 1 then L.set m (asReg (L.getD m default) (L.getD i default)) else L).set i (asHard (L.getD i default) (L.getD m default).path), F)
  else (L, F)
def regL (l : List Ent) : Nat → List Ent × Fi
  | 0 => (l, [])
  | k + 1 => regS (regL l k).1 (regL l k).2 k
theorem regS_len {L : List Ent} {F : Fi} {i : Nat} : (regS L F i).1.length = L.length := by
  unfold regS
  split
  · split
    · rfl
    · split <;> simp
  · rfl
theorem regL_len {l : List Ent} : ∀ k, (regL l k).1.length = l.length
  | 0 => rfl
  | k + 1 => by rw [regL, regS_len, regL_len k]
theorem regL_lt {l : List Ent} : ∀ k, ∀ p ∈ (regL l k).2, p.2 < k
  | 0 => by simp [regL]
  | k + 1 => by
    intro p hp
    have ih := regL_lt (l := l) k
    rw [regL, regS] at hp
    split at hp
    · split at hp
      · rcases List.mem_append.1 hp with h | h
        · exact Nat.lt_succ_of_lt (ih p h)
        · simp only [List.mem_singleton] at h
          subst h
          exact Nat.lt_succ_self k
      · exact Nat.lt_succ_of_lt (ih p hp)
    · exact Nat.lt_succ_of_lt (ih p hp)
def shE (l : List Ent) : Prop := ∀ e ∈ l, e.path.length ≤ 1000000 ∧ e.link.length ≤ 1000000
theorem filV_short {e : Ent} (h : e.path.length ≤ 1000000 ∧ e.link.length ≤ 1000000) : (filV e).1.length ≤ 1000000 := by
  unfold filV
  split
  · exact h.1
  · split
    · exact h.2
    · simp
theorem getD_mem {l : List Ent} {i : Nat} (h : i < l.length) : l.getD i default ∈ l := by
  simp [List.getD, List.getElem?_eq_getElem h]
theorem regS_sh {L : List Ent} {F : Fi} {i : Nat} (hL : shE L) (hi : i < L.length) (hF : ∀ p ∈ F, p.2 < L.length) : shE (regS L F i).1 := by
  unfold regS
  have he := hL _ (getD_mem hi)
  split
  · split
    · exact hL
    · rename_i m hm
      have hm' := hL _ (getD_mem (hF _ (findF_mem hm)))
      have h1 : shE (if (L.getD i default).kind = 1 then L.set m (asReg (L.getD m default) (L.getD i default)) else L) := by
        split
        · intro e h
          rcases List.mem_or_eq_of_mem_set h with h | rfl
          · exact hL e h
          · exact ⟨hm'.1, by simp [asReg]⟩
        · exact hL
      intro e h
      rcases List.mem_or_eq_of_mem_set h with h | rfl
      · exact h1 e h
      · exact ⟨he.1, hm'.1⟩
  · exact hL
theorem regL_sh {l : List Ent} (h : shE l) : ∀ k, k ≤ l.length → shE (regL l k).1
  | 0, _ => h
  | k + 1, hk => by
    refine regS_sh (regL_sh h k (by omega)) (by rw [regL_len]; omega) fun p hp => ?_
    have := regL_lt k p hp
    rw [regL_len]
    omega
theorem regL_fsh {l : List Ent} (h : shE l) : ∀ k, k ≤ l.length → ∀ p ∈ (regL l k).2, p.1.length ≤ 1000000
  | 0, _ => by simp [regL]
  | k + 1, hk => by
    intro p hp
    have ih := regL_fsh h k (by omega)
    have hs := filV_short (regL_sh h k (by omega) _ (getD_mem (i := k) (by rw [regL_len]; omega)))
    rw [regL, regS] at hp
    split at hp
    · split at hp
      · rcases List.mem_append.1 hp with h | h
        · exact ih p h
        · simp only [List.mem_singleton] at h
          subst h
          exact hs
      · exact ih p hp
    · exact ih p hp
theorem SWp.reread {P : Program} [Tabs P] [Lim] {Q : Ex → ASt → Prop} {st : ASt} {c : SCode} (id g : Nat) {nl : Bool} {cells : List AV} (cells' : List AV) (hid : st.hp id = some (g, .row nl cells)) (hg : ∀ c, AV.gl.glL c cells → AV.gl.glL c cells') (h0 : cells = [] → cells' = [])
    (hb : ∀ G w vs, RdL G w cells vs → RdL G w cells' vs)
    (h : SWp P c Q ⟨st.tm, updH st.hp id (some (g, .row nl cells')), st.gc, st.N⟩) : SWp P c Q st := by
  intro hm code hc w0 M Z G a w hZ hR
  have hH2 := heap_recell hR.heap hid (hg _ (hR.heap.gl _ _ _ _ hid).2) h0 (fun vs hvs => hb _ _ vs hvs)
  exact h hm code hc w0 M Z G a w hZ ⟨hR.keep, hH2, hR.size, hR.tm, hR.gl, hR.defers, hR.fr, hR.ext, hR.lc, hR.lc1, hR.tabs⟩
theorem nil_rd {G : Gh} {w : World} {es : Option Nat} {xs ys : List AV} {vs : List Value} (h : RdL G w (xs ++ .sc (.slice none 0 0) :: ys) vs) : RdL G w (xs ++ .sl true es [] :: ys) vs := by
  obtain ⟨a, b, rfl, h1, h2⟩ := RdL.split h
  refine RdL.app h1 ?_
  simp only [RdL] at h2 ⊢
  obtain ⟨v, r, rfl, h3, h4⟩ := h2
  simp only [Rd] at h3
  subst h3
  refine ⟨_, r, rfl, ?_, h4⟩
  simp only [Rd]
  exact ⟨none, 0, 0, [], rfl, rfl, Nat.le_refl _, by simp [RdL], by simp, fun _ => rfl, fun a h => by cases h⟩
set_option maxHeartbeats 2000000 in
set_option maxRecDepth 100000 in
theorem regroup_h [Tabs Tryd.prog] (nl : Bool) (l : List Ent) (hl : l.length ≤ 1000000) (hs : shE l) : HCon Tryd.prog n_entry_regroup [.own 1000 0 (some 10) 0 l.length] [.row nl (enC l)] (.tup []) [(1000, 0, .row nl (enC (regL l l.length).1))] 2 := by
  refine HCon.of' mix Tryd.func40 rfl Tryd.ntmps40 e_entry_regroup r_entry_regroup (by simp) (by simp [AV.gl, AV.gl.glL]) enC_gl ?_
  unfold s_entry_regroup
  repeat (first | refine wA ?_ | refine wB ?_ | refine wC rfl ?_ | refine wD rfl ?_ | refine wE ?_ | refine wF (by omega) ?_ | ((first | refine wG ?_ | refine wH ?_ | refine wI ?_ | refine wJ ?_ | refine wK ?_ | refine wL ?_); simp (disch := omega) only [wP, wZ, undef, UInt8.reduceToNat, Nat.reduceOr, Nat.reduceAnd, Nat.reduceXor, Nat.reduceDiv, if_pos, if_neg, aStore, frz, AV.flat, ↓reduceIte, ne_eq, reduceCtorEq, Int.reduceToNat, Nat.reduceEqDiff, Nat.reduceAdd, Nat.reduceSub, Nat.reduceMul, Int.reduceAdd, Int.reduceMul, Int.reduceSub, Int.reduceLT, Int.reduceLE, Int.reduceEq, Int.reduceNe, Nat.reduceLeDiff, Nat.reduceLT, Int.reduceNeg, Nat.reducePow, Nat.reduceMod, ByteArray.size]))
  refine SWp.loop (α := Nat) (fun k => mk 76 2 [(0, .own 1000 0 (some 10) 0 l.length), (2, .mp 8 1), (10, int l.length), (11, int k)] [(1000, 0, .row nl (enC (regL l k).1)), (8, 1, .row false [.tup ((regL l k).2.map fiM)])])
    (fun k => k ≤ l.length) (fun k => l.length - k) 0 (Nat.zero_le _) (le_mk rfl ?_ ?_ ?_) ?_
  · exact Nat.le_refl _
  iterate 2 (case _ => simp (disch := omega) only [wP, wZ, undef, UInt8.reduceToNat, Nat.reduceOr, Nat.reduceAnd, Nat.reduceXor, Nat.reduceDiv, if_pos, if_neg, aStore, frz, AV.flat, ↓reduceIte, ne_eq, reduceCtorEq, Int.reduceToNat, Nat.reduceEqDiff, Nat.reduceAdd, Nat.reduceSub, Nat.reduceMul, Int.reduceAdd, Int.reduceMul, Int.reduceSub, Int.reduceLT, Int.reduceLE, Int.reduceEq, Int.reduceNe, Nat.reduceLeDiff, Nat.reduceLT, Int.reduceNeg, Nat.reducePow, Nat.reduceMod, ByteArray.size, regL, List.map_nil])
  rintro k hk -
  have hlen := regL_len (l := l) k
  by_cases hk' : k < l.length
  case neg =>
    have d : decide ((k : Int) < (l.length : Int)) = false := decide_eq_false (by omega)
    have e : k = l.length := by omega
    subst e
    repeat (first | refine wA ?_ | refine wB ?_ | refine wC rfl ?_ | refine wD rfl ?_ | refine wE ?_ | refine wF (by omega) ?_ | ((first | refine wG ?_ | refine wH ?_ | refine wI ?_ | refine wJ ?_ | refine wK ?_ | refine wL ?_); simp (disch := omega) only [wP, wZ, undef, UInt8.reduceToNat, Nat.reduceOr, Nat.reduceAnd, Nat.reduceXor, Nat.reduceDiv, if_pos, if_neg, aStore, frz, AV.flat, ↓reduceIte, ne_eq, reduceCtorEq, Int.reduceToNat, Nat.reduceEqDiff, Nat.reduceAdd, Nat.reduceSub, Nat.reduceMul, Int.reduceAdd, Int.reduceMul, Int.reduceSub, Int.reduceLT, Int.reduceLE, Int.reduceEq, Int.reduceNe, Nat.reduceLeDiff, Nat.reduceLT, Int.reduceNeg, Nat.reducePow, Nat.reduceMod, ByteArray.size, d]))
    rfl
  have d : decide ((k : Int) < (l.length : Int)) = true := decide_eq_true (by omega)
  have hlt := regL_lt (l := l) k
  have hfsh := regL_fsh hs k hk
  have hsh := regL_sh hs k hk
  have hnext : regL l (k + 1) = regS (regL l k).1 (regL l k).2 k := rfl
  obtain ⟨L, hL⟩ : ∃ L, L = (regL l k).1 := ⟨_, rfl⟩
  obtain ⟨F, hF⟩ : ∃ F, F = (regL l k).2 := ⟨_, rfl⟩
  rw [← hL] at hlen hsh hnext
  rw [← hF] at hlt hfsh hnext
  rw [← hL, ← hF]
  have hkL : k < L.length := by omega
  have hld := load_enC hkL
  have hgd : L.getD k default = L[k] := by simp [List.getD, List.getElem?_eq_getElem hkL]
  rw [regS, hgd] at hnext
  repeat (first | refine wA ?_ | refine wB ?_ | refine wC rfl ?_ | refine wD rfl ?_ | refine wE ?_ | refine wF (by omega) ?_ | ((first | refine wG ?_ | refine wH ?_ | refine wI ?_ | refine wJ ?_ | refine wK ?_ | refine wL ?_); simp (disch := omega) only [wP, wZ, undef, UInt8.reduceToNat, Nat.reduceOr, Nat.reduceAnd, Nat.reduceXor, Nat.reduceDiv, if_pos, if_neg, aStore, frz, AV.flat, ↓reduceIte, ne_eq, reduceCtorEq, Int.reduceToNat, Nat.reduceEqDiff, Nat.reduceAdd, Nat.reduceSub, Nat.reduceMul, Int.reduceAdd, Int.reduceMul, Int.reduceSub, Int.reduceLT, Int.reduceLE, Int.reduceEq, Int.reduceNe, Nat.reduceLeDiff, Nat.reduceLT, Int.reduceNeg, Nat.reducePow, Nat.reduceMod, ByteArray.size, d, hld, length_enC, hlen]))
  refine goC_p _ (.inl ⟨free_entV, fileOf_c L[k]⟩) ?_
  have hsp := filV_short (hsh _ (List.getElem_mem hkL))
  obtain ⟨P, hP⟩ : ∃ P, P = (filV L[k]).1 := ⟨_, rfl⟩
  obtain ⟨b, hb⟩ : ∃ b, b = (filV L[k]).2 := ⟨_, rfl⟩
  rw [← hP] at hsp
  rw [← hP, ← hb] at hnext ⊢
  have hkp := like_str hsp
  have hef := ents_fi hfsh
  cases b
  · rw [if_neg (by simp)] at hnext
    repeat (first | refine wA ?_ | refine wB ?_ | refine wC rfl ?_ | refine wD rfl ?_ | refine wE ?_ | refine wF (by omega) ?_ | ((first | refine wG ?_ | refine wH ?_ | refine wI ?_ | refine wJ ?_ | refine wK ?_ | refine wL ?_); simp (disch := omega) only [wP, wZ, undef, UInt8.reduceToNat, Nat.reduceOr, Nat.reduceAnd, Nat.reduceXor, Nat.reduceDiv, if_pos, if_neg, aStore, frz, AV.flat, ↓reduceIte, ne_eq, reduceCtorEq, Int.reduceToNat, Nat.reduceEqDiff, Nat.reduceAdd, Nat.reduceSub, Nat.reduceMul, Int.reduceAdd, Int.reduceMul, Int.reduceSub, Int.reduceLT, Int.reduceLE, Int.reduceEq, Int.reduceNe, Nat.reduceLeDiff, Nat.reduceLT, Int.reduceNeg, Nat.reducePow, Nat.reduceMod, ByteArray.size, boo]))
    refine At.of (k + 1) (by omega) (by omega) rfl rfl (Nat.le_refl _) ?_ ?_
    · simp (disch := omega) only [wP, wZ, undef, UInt8.reduceToNat, Nat.reduceOr, Nat.reduceAnd, Nat.reduceXor, Nat.reduceDiv, if_pos, if_neg, aStore, frz, AV.flat, ↓reduceIte, ne_eq, reduceCtorEq, Int.reduceToNat, Nat.reduceEqDiff, Nat.reduceAdd, Nat.reduceSub, Nat.reduceMul, Int.reduceAdd, Int.reduceMul, Int.reduceSub, Int.reduceLT, Int.reduceLE, Int.reduceEq, Int.reduceNe, Nat.reduceLeDiff, Nat.reduceLT, Int.reduceNeg, Nat.reducePow, Nat.reduceMod, ByteArray.size]
    · rw [hnext]
      simp (disch := omega) only [wP, wZ, undef, UInt8.reduceToNat, Nat.reduceOr, Nat.reduceAnd, Nat.reduceXor, Nat.reduceDiv, if_pos, if_neg, aStore, frz, AV.flat, ↓reduceIte, ne_eq, reduceCtorEq, Int.reduceToNat, Nat.reduceEqDiff, Nat.reduceAdd, Nat.reduceSub, Nat.reduceMul, Int.reduceAdd, Int.reduceMul, Int.reduceSub, Int.reduceLT, Int.reduceLE, Int.reduceEq, Int.reduceNe, Nat.reduceLeDiff, Nat.reduceLT, Int.reduceNeg, Nat.reducePow, Nat.reduceMod, ByteArray.size]
  rw [if_pos rfl] at hnext
  have hfp := mfind_fi (p := P) (M := F)
  cases hff : findF P F with
  | none =>
    rw [hff] at hnext hfp
    have hpt := mput_fi (i := k) hff
    have z0 : zeroA (.int .i64 0) = .sc (.int .i64 0) := rfl
    repeat (first | refine wA ?_ | refine wB ?_ | refine wC rfl ?_ | refine wD rfl ?_ | refine wE ?_ | refine wF (by omega) ?_ | ((first | refine wG ?_ | refine wH ?_ | refine wI ?_ | refine wJ ?_ | refine wK ?_ | refine wL ?_); simp (disch := omega) only [wP, wZ, undef, UInt8.reduceToNat, Nat.reduceOr, Nat.reduceAnd, Nat.reduceXor, Nat.reduceDiv, if_pos, if_neg, aStore, frz, AV.flat, ↓reduceIte, ne_eq, reduceCtorEq, Int.reduceToNat, Nat.reduceEqDiff, Nat.reduceAdd, Nat.reduceSub, Nat.reduceMul, Int.reduceAdd, Int.reduceMul, Int.reduceSub, Int.reduceLT, Int.reduceLE, Int.reduceEq, Int.reduceNe, Nat.reduceLeDiff, Nat.reduceLT, Int.reduceNeg, Nat.reducePow, Nat.reduceMod, ByteArray.size, boo, hkp, hef, hfp, Option.map_none, Option.isSome_none, z0, hpt]))
    refine At.of (k + 1) (by omega) (by omega) rfl rfl (Nat.le_refl _) ?_ ?_
    · simp (disch := omega) only [wP, wZ, undef, UInt8.reduceToNat, Nat.reduceOr, Nat.reduceAnd, Nat.reduceXor, Nat.reduceDiv, if_pos, if_neg, aStore, frz, AV.flat, ↓reduceIte, ne_eq, reduceCtorEq, Int.reduceToNat, Nat.reduceEqDiff, Nat.reduceAdd, Nat.reduceSub, Nat.reduceMul, Int.reduceAdd, Int.reduceMul, Int.reduceSub, Int.reduceLT, Int.reduceLE, Int.reduceEq, Int.reduceNe, Nat.reduceLeDiff, Nat.reduceLT, Int.reduceNeg, Nat.reducePow, Nat.reduceMod, ByteArray.size]
    · rw [hnext]
      simp (disch := omega) only [wP, wZ, undef, UInt8.reduceToNat, Nat.reduceOr, Nat.reduceAnd, Nat.reduceXor, Nat.reduceDiv, if_pos, if_neg, aStore, frz, AV.flat, ↓reduceIte, ne_eq, reduceCtorEq, Int.reduceToNat, Nat.reduceEqDiff, Nat.reduceAdd, Nat.reduceSub, Nat.reduceMul, Int.reduceAdd, Int.reduceMul, Int.reduceSub, Int.reduceLT, Int.reduceLE, Int.reduceEq, Int.reduceNe, Nat.reduceLeDiff, Nat.reduceLT, Int.reduceNeg, Nat.reducePow, Nat.reduceMod, ByteArray.size]
  | some m =>
    rw [hff] at hnext hfp
    have hmk : m < k := hlt _ (findF_mem hff)
    have hmL : m < L.length := by omega
    have hgm : L.getD m default = L[m] := by simp [List.getD, List.getElem?_eq_getElem hmL]
    dsimp only at hnext
    rw [hgm] at hnext
    have c1 : (enC L).getD (k * 10 + 1) .junk = int L[k].kind := cell_enC (j := 1) hkL (by omega)
    iterate 12 (first | refine wA ?_ | refine wB ?_ | refine wC rfl ?_ | refine wD rfl ?_ | refine wE ?_ | refine wF (by omega) ?_ | ((first | refine wG ?_ | refine wH ?_ | refine wI ?_ | refine wJ ?_ | refine wK ?_ | refine wL ?_); simp (disch := omega) only [wP, wZ, undef, UInt8.reduceToNat, Nat.reduceOr, Nat.reduceAnd, Nat.reduceXor, Nat.reduceDiv, if_pos, if_neg, aStore, frz, AV.flat, ↓reduceIte, ne_eq, reduceCtorEq, Int.reduceToNat, Nat.reduceEqDiff, Nat.reduceAdd, Nat.reduceSub, Nat.reduceMul, Int.reduceAdd, Int.reduceMul, Int.reduceSub, Int.reduceLT, Int.reduceLE, Int.reduceEq, Int.reduceNe, Nat.reduceLeDiff, Nat.reduceLT, Int.reduceNeg, Nat.reducePow, Nat.reduceMod, ByteArray.size, boo, hkp, hef, hfp, Option.map_some, Option.isSome_some, c1, length_enC, hlen]))
    have q9 : (enC L).getD (k * 10 + 9) .junk = .sl L[k].nl none (L[k].data.map u8) := cell_enC (j := 9) hkL (by omega)
    by_cases h1 : L[k].kind = 1
    case' pos =>
      have q1 : decide (L[k].kind = 1) = true := decide_eq_true h1
      rw [if_pos h1] at hnext
      have s1 : (enC L).take (m * 10 + 1) ++ .sc (.int .i64 1) :: (enC L).drop (m * 10 + 1 + 1) = enC (L.set m { L[m] with kind := 1 }) := store_enC hmL (by omega) rfl
      have s2 : (enC (L.set m { L[m] with kind := 1 })).take (m * 10 + 8) ++ .sc (.string ⟨#[]⟩) :: (enC (L.set m { L[m] with kind := 1 })).drop (m * 10 + 8 + 1) = enC (L.set m { L[m] with kind := 1, link := [] }) := by
        have := store_enC (l := L.set m { L[m] with kind := 1 }) (i := m) (j := 8) (v := .sc (.string ⟨#[]⟩)) (e := { L[m] with kind := 1, link := [] }) (by simpa using hmL) (by omega) (by simp only [List.getElem_set_self]; rfl)
        rw [List.set_set] at this
        exact this
      have s3 : (enC (L.set m { L[m] with kind := 1, link := [] })).take (m * 10 + 9) ++ .sl L[k].nl none (L[k].data.map u8) :: (enC (L.set m { L[m] with kind := 1, link := [] })).drop (m * 10 + 9 + 1) = enC (L.set m (asReg L[m] L[k])) := by
        have := store_enC (l := L.set m { L[m] with kind := 1, link := [] }) (i := m) (j := 9) (v := .sl L[k].nl none (L[k].data.map u8)) (e := asReg L[m] L[k]) (by simpa using hmL) (by omega) (by simp only [List.getElem_set_self]; rfl)
        rw [List.set_set] at this
        exact this
      iterate 8 (first | refine wA ?_ | refine wB ?_ | refine wC rfl ?_ | refine wD rfl ?_ | refine wE ?_ | refine wF (by omega) ?_ | ((first | refine wG ?_ | refine wH ?_ | refine wI ?_ | refine wJ ?_ | refine wK ?_ | refine wL ?_); simp (disch := omega) only [wP, wZ, undef, UInt8.reduceToNat, Nat.reduceOr, Nat.reduceAnd, Nat.reduceXor, Nat.reduceDiv, if_pos, if_neg, aStore, frz, AV.flat, ↓reduceIte, ne_eq, reduceCtorEq, Int.reduceToNat, Nat.reduceEqDiff, Nat.reduceAdd, Nat.reduceSub, Nat.reduceMul, Int.reduceAdd, Int.reduceMul, Int.reduceSub, Int.reduceLT, Int.reduceLE, Int.reduceEq, Int.reduceNe, Nat.reduceLeDiff, Nat.reduceLT, Int.reduceNeg, Nat.reducePow, Nat.reduceMod, ByteArray.size, c1, q1, q9, length_enC, hlen, List.length_set, s1, s2, s3]))
      repeat refine And.intro (by omega) ?_
      obtain ⟨L', hL'⟩ : ∃ L', L' = L.set m (asReg L[m] L[k]) := ⟨_, rfl⟩
      have hnx : regL l (k + 1) = (L'.set k (asHard L[k] L[m].path), F) := by rw [hnext, hL']
      have g1 : L'.length = L.length := by rw [hL']; simp
      have g2 : L'[k]'(by omega) = L[k] := by simp only [hL']; rw [List.getElem_set_ne (by omega)]
      have g3 : (L'[m]'(by omega)).path = L[m].path := by simp only [hL', List.getElem_set_self]; rfl
    case' neg =>
      have q1 : decide (L[k].kind = 1) = false := decide_eq_false h1
      rw [if_neg h1] at hnext
      iterate 8 (first | refine wA ?_ | refine wB ?_ | refine wC rfl ?_ | refine wD rfl ?_ | refine wE ?_ | refine wF (by omega) ?_ | ((first | refine wG ?_ | refine wH ?_ | refine wI ?_ | refine wJ ?_ | refine wK ?_ | refine wL ?_); simp (disch := omega) only [wP, wZ, undef, UInt8.reduceToNat, Nat.reduceOr, Nat.reduceAnd, Nat.reduceXor, Nat.reduceDiv, if_pos, if_neg, aStore, frz, AV.flat, ↓reduceIte, ne_eq, reduceCtorEq, Int.reduceToNat, Nat.reduceEqDiff, Nat.reduceAdd, Nat.reduceSub, Nat.reduceMul, Int.reduceAdd, Int.reduceMul, Int.reduceSub, Int.reduceLT, Int.reduceLE, Int.reduceEq, Int.reduceNe, Nat.reduceLeDiff, Nat.reduceLT, Int.reduceNeg, Nat.reducePow, Nat.reduceMod, ByteArray.size, c1, q1, length_enC, hlen]))
      obtain ⟨L', hL'⟩ : ∃ L', L' = L := ⟨_, rfl⟩
      have hnx : regL l (k + 1) = (L'.set k (asHard L[k] L[m].path), F) := by rw [hnext, hL']
      have g1 : L'.length = L.length := by rw [hL']
      have g2 : L'[k]'(by omega) = L[k] := by simp only [hL']
      have g3 : (L'[m]'(by omega)).path = L[m].path := by simp only [hL']
    all_goals
      refine SWp.le (st' := mk 76 2 [(0, .own 1000 0 (some 10) 0 l.length), (2, .mp 8 1), (3, int k), (6, int m), (10, int l.length), (11, int k)] [(1000, 0, .row nl (enC L')), (8, 1, .row false [.tup (F.map fiM)])]) (le_mk rfl ?_ ?_ ?_) ?_
      · exact Nat.le_refl _
      iterate 2 (case _ => simp (disch := omega) only [wP, wZ, undef, UInt8.reduceToNat, Nat.reduceOr, Nat.reduceAnd, Nat.reduceXor, Nat.reduceDiv, if_pos, if_neg, aStore, frz, AV.flat, ↓reduceIte, ne_eq, reduceCtorEq, Int.reduceToNat, Nat.reduceEqDiff, Nat.reduceAdd, Nat.reduceSub, Nat.reduceMul, Int.reduceAdd, Int.reduceMul, Int.reduceSub, Int.reduceLT, Int.reduceLE, Int.reduceEq, Int.reduceNe, Nat.reduceLeDiff, Nat.reduceLT, Int.reduceNeg, Nat.reducePow, Nat.reduceMod, ByteArray.size, hL'])
      have hk2 : k < L'.length := by omega
      have hm2 : m < L'.length := by omega
      have c0 : (enC L').getD (m * 10) .junk = str L[m].path := by
        have := cell_enC (l := L') (i := m) (j := 0) hm2 (by omega)
        rw [← g3]
        exact this
      have s1 : (enC L').take (k * 10 + 1) ++ .sc (.int .i64 4) :: (enC L').drop (k * 10 + 1 + 1) = enC (L'.set k { L[k] with kind := 4 }) := store_enC hk2 (by omega) (by rw [g2]; rfl)
      have s2 : (enC (L'.set k { L[k] with kind := 4 })).take (k * 10 + 8) ++ .sc (.string ⟨L[m].path.toArray⟩) :: (enC (L'.set k { L[k] with kind := 4 })).drop (k * 10 + 8 + 1) = enC (L'.set k { L[k] with kind := 4, link := L[m].path }) := by
        have := store_enC (l := L'.set k { L[k] with kind := 4 }) (i := k) (j := 8) (v := str L[m].path) (e := { L[k] with kind := 4, link := L[m].path }) (by simpa using hk2) (by omega) (by simp only [List.getElem_set_self]; rfl)
        rw [List.set_set] at this
        exact this
      have s3 : (enC (L'.set k { L[k] with kind := 4, link := L[m].path })).take (k * 10 + 9) ++ .sl true none [] :: (enC (L'.set k { L[k] with kind := 4, link := L[m].path })).drop (k * 10 + 9 + 1) = enC (L'.set k (asHard L[k] L[m].path)) := by
        have := store_enC (l := L'.set k { L[k] with kind := 4, link := L[m].path }) (i := k) (j := 9) (v := .sl true none []) (e := asHard L[k] L[m].path) (by simpa using hk2) (by omega) (by simp only [List.getElem_set_self]; rfl)
        rw [List.set_set] at this
        exact this
      iterate 1 (first | refine wA ?_ | refine wB ?_ | refine wC rfl ?_ | refine wD rfl ?_ | refine wE ?_ | refine wF (by omega) ?_ | ((first | refine wG ?_ | refine wH ?_ | refine wI ?_ | refine wJ ?_ | refine wK ?_ | refine wL ?_); simp (disch := omega) only [wP, wZ, undef, UInt8.reduceToNat, Nat.reduceOr, Nat.reduceAnd, Nat.reduceXor, Nat.reduceDiv, if_pos, if_neg, aStore, frz, AV.flat, ↓reduceIte, ne_eq, reduceCtorEq, Int.reduceToNat, Nat.reduceEqDiff, Nat.reduceAdd, Nat.reduceSub, Nat.reduceMul, Int.reduceAdd, Int.reduceMul, Int.reduceSub, Int.reduceLT, Int.reduceLE, Int.reduceEq, Int.reduceNe, Nat.reduceLeDiff, Nat.reduceLT, Int.reduceNeg, Nat.reducePow, Nat.reduceMod, ByteArray.size, c0, length_enC, g1, hlen, List.length_set, s1, s2]))
      repeat refine And.intro (by omega) ?_
      refine SWp.reread 1000 0 (nl := nl) (cells := (enC (L'.set k { L[k] with kind := 4, link := L[m].path })).take (k * 10 + 9) ++ .sc (.slice none 0 0) :: (enC (L'.set k { L[k] with kind := 4, link := L[m].path })).drop (k * 10 + 9 + 1)) (enC (L'.set k (asHard L[k] L[m].path))) ?_ (fun c h => glL_of_free _ _ free_enC) (fun h => by simp at h) (fun G w vs h => by rw [← s3]; exact nil_rd h) ?_
      · simp (disch := omega) only [wP, wZ, undef, UInt8.reduceToNat, Nat.reduceOr, Nat.reduceAnd, Nat.reduceXor, Nat.reduceDiv, if_pos, if_neg, aStore, frz, AV.flat, ↓reduceIte, ne_eq, reduceCtorEq, Int.reduceToNat, Nat.reduceEqDiff, Nat.reduceAdd, Nat.reduceSub, Nat.reduceMul, Int.reduceAdd, Int.reduceMul, Int.reduceSub, Int.reduceLT, Int.reduceLE, Int.reduceEq, Int.reduceNe, Nat.reduceLeDiff, Nat.reduceLT, Int.reduceNeg, Nat.reducePow, Nat.reduceMod, ByteArray.size]
      refine SWp.le (st' := mk 76 2 [(0, .own 1000 0 (some 10) 0 l.length), (2, .mp 8 1), (10, int l.length), (11, int k)] [(1000, 0, .row nl (enC (L'.set k (asHard L[k] L[m].path)))), (8, 1, .row false [.tup (F.map fiM)])]) (le_mk rfl ?_ ?_ ?_) ?_
      · exact Nat.le_refl _
      iterate 2 (case _ => simp (disch := omega) only [wP, wZ, undef, UInt8.reduceToNat, Nat.reduceOr, Nat.reduceAnd, Nat.reduceXor, Nat.reduceDiv, if_pos, if_neg, aStore, frz, AV.flat, ↓reduceIte, ne_eq, reduceCtorEq, Int.reduceToNat, Nat.reduceEqDiff, Nat.reduceAdd, Nat.reduceSub, Nat.reduceMul, Int.reduceAdd, Int.reduceMul, Int.reduceSub, Int.reduceLT, Int.reduceLE, Int.reduceEq, Int.reduceNe, Nat.reduceLeDiff, Nat.reduceLT, Int.reduceNeg, Nat.reducePow, Nat.reduceMod, ByteArray.size])
      repeat (first | refine wA ?_ | refine wB ?_ | refine wC rfl ?_ | refine wD rfl ?_ | refine wE ?_ | refine wF (by omega) ?_ | ((first | refine wG ?_ | refine wH ?_ | refine wI ?_ | refine wJ ?_ | refine wK ?_ | refine wL ?_); simp (disch := omega) only [wP, wZ, undef, UInt8.reduceToNat, Nat.reduceOr, Nat.reduceAnd, Nat.reduceXor, Nat.reduceDiv, if_pos, if_neg, aStore, frz, AV.flat, ↓reduceIte, ne_eq, reduceCtorEq, Int.reduceToNat, Nat.reduceEqDiff, Nat.reduceAdd, Nat.reduceSub, Nat.reduceMul, Int.reduceAdd, Int.reduceMul, Int.reduceSub, Int.reduceLT, Int.reduceLE, Int.reduceEq, Int.reduceNe, Nat.reduceLeDiff, Nat.reduceLT, Int.reduceNeg, Nat.reducePow, Nat.reduceMod, ByteArray.size]))
      refine At.of (k + 1) (by omega) (by omega) rfl rfl (Nat.le_refl _) ?_ ?_
      · simp (disch := omega) only [wP, wZ, undef, UInt8.reduceToNat, Nat.reduceOr, Nat.reduceAnd, Nat.reduceXor, Nat.reduceDiv, if_pos, if_neg, aStore, frz, AV.flat, ↓reduceIte, ne_eq, reduceCtorEq, Int.reduceToNat, Nat.reduceEqDiff, Nat.reduceAdd, Nat.reduceSub, Nat.reduceMul, Int.reduceAdd, Int.reduceMul, Int.reduceSub, Int.reduceLT, Int.reduceLE, Int.reduceEq, Int.reduceNe, Nat.reduceLeDiff, Nat.reduceLT, Int.reduceNeg, Nat.reducePow, Nat.reduceMod, ByteArray.size]
      · rw [hnx]
        simp (disch := omega) only [wP, wZ, undef, UInt8.reduceToNat, Nat.reduceOr, Nat.reduceAnd, Nat.reduceXor, Nat.reduceDiv, if_pos, if_neg, aStore, frz, AV.flat, ↓reduceIte, ne_eq, reduceCtorEq, Int.reduceToNat, Nat.reduceEqDiff, Nat.reduceAdd, Nat.reduceSub, Nat.reduceMul, Int.reduceAdd, Int.reduceMul, Int.reduceSub, Int.reduceLT, Int.reduceLE, Int.reduceEq, Int.reduceNe, Nat.reduceLeDiff, Nat.reduceLT, Int.reduceNeg, Nat.reducePow, Nat.reduceMod, ByteArray.size]
end Go.Proofs.YtbmmdkbinlnogaaDoor.Aw
namespace Go.Proofs.YtbmmdkbinlnogaaDoor.Aw
open Go
set_option linter.unusedSimpArgs false
set_option linter.unusedVariables false
def KU : Nat := 1000020
def offB (M : List Ent) (p : List UInt8) : Bool := match findE p M with | some x => !decide (x.kind = 2) | none => false
def underB (M : List Ent) (s : List UInt8) : Bool := (upsN s s.length).any (offB M)
theorem any_takeS {α : Type} {f : α → Bool} {l : List α} {k : Nat} {x : α} (h : (l.take k).any f = false) (hx : l[k]? = some x) (hf : f x = false) : (l.take (k + 1)).any f = false := by
  rw [List.take_add_one, hx, List.any_append, h]
  simp [hf]
theorem ups_mem {s : List UInt8} : ∀ {n : Nat} {p : List UInt8}, p ∈ upsN s n → p.length ≤ s.length
  | 0, p, h => by simp [upsN] at h
  | n + 1, p, h => by
    rw [upsN] at h
    split at h
    · rcases List.mem_cons.1 h with rfl | h
      · exact List.length_take_le' _ _
      · exact ups_mem h
    · exact ups_mem h
theorem ups_short (s : List UInt8) (h : s.length ≤ 1000000) (p : List UInt8) (hp : p ∈ upsN s s.length) : p.length ≤ 1000000 := Nat.le_trans (ups_mem hp) h
theorem ups_len {s : List UInt8} : ∀ {n : Nat}, (upsN s n).length ≤ n
  | 0 => Nat.le_refl _
  | n + 1 => by
    have := ups_len (s := s) (n := n)
    rw [upsN]
    split <;> simp <;> omega
theorem z10 : zeroA (.agg #[.string ⟨#[]⟩, .int .i64 0, .int .i64 0, .int .i64 0, .int .i64 0, .string ⟨#[]⟩, .string ⟨#[]⟩, .int .i64 0, .string ⟨#[]⟩, .slice none 0 0]) = .agg [.sc (.string ⟨#[]⟩), .sc (.int .i64 0), .sc (.int .i64 0), .sc (.int .i64 0), .sc (.int .i64 0), .sc (.string ⟨#[]⟩), .sc (.string ⟨#[]⟩), .sc (.int .i64 0), .sc (.string ⟨#[]⟩), .sc (.slice none 0 0)] := rfl
set_option maxHeartbeats 2000000 in
set_option maxRecDepth 100000 in
theorem isUnderOther_h [Tabs Tryd.prog] (M : List Ent) (U : List (List UInt8)) (hM : ∀ e ∈ M, e.path.length ≤ 1000000) (e : Ent) (he : e.path.length ≤ 1000000) :
    HCon Tryd.prog n_entry_ahead_isUnderOther [.agg [.mp 1000 0, .mp 1001 0], entV e] (ahI M U) (boo (underB M e.path)) (ahO M U) (KU + 1) := by
  refine HCon.of' mix Tryd.func50 rfl Tryd.ntmps50 e_entry_ahead_isUnderOther r_entry_ahead_isUnderOther (by simp) ⟨by simp [AV.gl, AV.gl.glL], ent_gl⟩ ah_gl ?_
  unfold s_entry_ahead_isUnderOther
  obtain ⟨Z, hZ⟩ : ∃ Z, Z = underB M e.path := ⟨_, rfl⟩
  rw [← hZ]
  rw [underB] at hZ
  have hu := ents_enM hM
  repeat (first | refine wA ?_ | refine wB ?_ | refine wC rfl ?_ | refine wD rfl ?_ | refine wE ?_ | refine wF (by omega) ?_ | ((first | refine wG ?_ | refine wH ?_ | refine wI ?_ | refine wJ ?_ | refine wK ?_ | refine wL ?_); simp (disch := omega) only [wP, wZ, undef, UInt8.reduceToNat, Nat.reduceOr, Nat.reduceAnd, Nat.reduceXor, Nat.reduceDiv, if_pos, if_neg, aStore, frz, AV.flat, ↓reduceIte, ne_eq, reduceCtorEq, Int.reduceToNat, Nat.reduceEqDiff, Nat.reduceAdd, Nat.reduceSub, Nat.reduceMul, Int.reduceAdd, Int.reduceMul, Int.reduceSub, Int.reduceLT, Int.reduceLE, Int.reduceEq, Int.reduceNe, Nat.reduceLeDiff, Nat.reduceLT, Int.reduceNeg, Nat.reducePow, Nat.reduceMod, ByteArray.size, entV, entL]))
  refine goC_h [] 2000 (above_c e.path) (by simp) (by simp) (by simp [handOk]) (by simp [ren.renL, ren, str]) ?_
  repeat (first | refine wA ?_ | refine wB ?_ | refine wC rfl ?_ | refine wD rfl ?_ | refine wE ?_ | refine wF (by omega) ?_ | ((first | refine wG ?_ | refine wH ?_ | refine wI ?_ | refine wJ ?_ | refine wK ?_ | refine wL ?_); simp (disch := omega) only [wP, wZ, undef, UInt8.reduceToNat, Nat.reduceOr, Nat.reduceAnd, Nat.reduceXor, Nat.reduceDiv, if_pos, if_neg, aStore, frz, AV.flat, ↓reduceIte, ne_eq, reduceCtorEq, Int.reduceToNat, Nat.reduceEqDiff, Nat.reduceAdd, Nat.reduceSub, Nat.reduceMul, Int.reduceAdd, Int.reduceMul, Int.reduceSub, Int.reduceLT, Int.reduceLE, Int.reduceEq, Int.reduceNe, Nat.reduceLeDiff, Nat.reduceLT, Int.reduceNeg, Nat.reducePow, Nat.reduceMod, ByteArray.size]))
  refine SWp.le (st' := mk 25 6 [(2, .op 2 1 0), (4, .op 4 3 0), (10, .clo n_entry_above_1 [.op 2001 5 0])] [(1000, 0, .row false [.tup (M.map enM)]), (1001, 0, .row false [.tup (U.map upM)]), (2, 1, .row false [.mp 1000 0, .mp 1001 0]), (4, 3, .row false [.sc (.bool false)]), (2001, 5, .row false [str e.path])]) (le_mk rfl ?_ ?_ ?_) ?_
  iterate 3 (case _ => simp (disch := omega) only [wP, wZ, undef, UInt8.reduceToNat, Nat.reduceOr, Nat.reduceAnd, Nat.reduceXor, Nat.reduceDiv, if_pos, if_neg, aStore, frz, AV.flat, ↓reduceIte, ne_eq, reduceCtorEq, Int.reduceToNat, Nat.reduceEqDiff, Nat.reduceAdd, Nat.reduceSub, Nat.reduceMul, Int.reduceAdd, Int.reduceMul, Int.reduceSub, Int.reduceLT, Int.reduceLE, Int.reduceEq, Int.reduceNe, Nat.reduceLeDiff, Nat.reduceLT, Int.reduceNeg, Nat.reducePow, Nat.reduceMod, ByteArray.size])
  refine SWp.range (gf := n_entry_above_1) (caps := [.op 2001 5 0]) (hin := [(2001, 5, [str e.path])]) (xs := (upsN e.path e.path.length).map txt) (look [(2, .op 2 1 0), (4, .op 4 3 0)]) (fun g : Nat => (lookH [(1000, 0, .row false [.tup (M.map enM)]), (1001, 0, .row false [.tup (U.map upM)]), (2, 1, .row false [.mp 1000 0, .mp 1001 0]), (4, 3, .row false [.sc (.bool false)])], 6 + g)) (fun g k => ((upsN e.path e.path.length).take k).any (offB M) = false ∧ g ≤ k) 0 rfl (by kernel_rfl) ?_ (above_it 2001 5 e.path he) (by show 11 < 25; omega) ⟨rfl, Nat.le_refl _⟩ ?_ ?_ ?_ ?_
  · intro q hq
    simp only [List.mem_singleton] at hq
    subst hq
    rfl
  · refine le_mk rfl ?_ ?_ ?_
    iterate 3 (case _ => simp (disch := omega) only [wP, wZ, undef, UInt8.reduceToNat, Nat.reduceOr, Nat.reduceAnd, Nat.reduceXor, Nat.reduceDiv, if_pos, if_neg, aStore, frz, AV.flat, ↓reduceIte, ne_eq, reduceCtorEq, Int.reduceToNat, Nat.reduceEqDiff, Nat.reduceAdd, Nat.reduceSub, Nat.reduceMul, Int.reduceAdd, Int.reduceMul, Int.reduceSub, Int.reduceLT, Int.reduceLE, Int.reduceEq, Int.reduceNe, Nat.reduceLeDiff, Nat.reduceLT, Int.reduceNeg, Nat.reducePow, Nat.reduceMod, ByteArray.size])
  · intro q hq
    simp only [List.mem_singleton] at hq
    subst hq
    rfl
  · rintro L g k x ⟨hi, hgk⟩ hx
    show @SWp _ _ L _ _ (mk 25 (6 + g) [(11, .sc x), (2, .op 2 1 0), (4, .op 4 3 0)] [(1000, 0, .row false [.tup (M.map enM)]), (1001, 0, .row false [.tup (U.map upM)]), (2, 1, .row false [.mp 1000 0, .mp 1001 0]), (4, 3, .row false [.sc (.bool false)])])
    rw [List.getElem?_map] at hx
    obtain ⟨p, hp, rfl⟩ := Option.map_eq_some_iff.1 hx
    have hpl : p.length ≤ 1000000 := ups_short e.path he p (List.mem_of_getElem? hp)
    have hk := like_str hpl
    have hf := mfind_enM (p := p) (M := M)
    have hoff : offB M p = true → Z = true := fun h => by
      rw [hZ]
      exact List.any_eq_true.2 ⟨p, List.mem_of_getElem? hp, h⟩
    cases hc : findE p M with
    | none =>
      have ho : offB M p = false := by rw [offB, hc]
      rw [hc, Option.map_none] at hf
      repeat (first | refine wA ?_ | refine wB ?_ | refine wC rfl ?_ | refine wD rfl ?_ | refine wE ?_ | refine wF (by omega) ?_ | ((first | refine wG ?_ | refine wH ?_ | refine wI ?_ | refine wJ ?_ | refine wK ?_ | refine wL ?_); simp (disch := omega) only [wP, wZ, undef, UInt8.reduceToNat, Nat.reduceOr, Nat.reduceAnd, Nat.reduceXor, Nat.reduceDiv, if_pos, if_neg, aStore, frz, AV.flat, ↓reduceIte, ne_eq, reduceCtorEq, Int.reduceToNat, Nat.reduceEqDiff, Nat.reduceAdd, Nat.reduceSub, Nat.reduceMul, Int.reduceAdd, Int.reduceMul, Int.reduceSub, Int.reduceLT, Int.reduceLE, Int.reduceEq, Int.reduceNe, Nat.reduceLeDiff, Nat.reduceLT, Int.reduceNeg, Nat.reducePow, Nat.reduceMod, ByteArray.size, txt, boo, hf, hk, hu, Option.isSome_none, z10]))
      refine ⟨g + 1, ⟨any_takeS hi hp ho, by omega⟩, le_mk rfl ?_ ?_ ?_⟩
      · show 6 + g + 1 ≤ 6 + (g + 1); omega
      iterate 2 (case _ => simp (disch := omega) only [wP, wZ, undef, UInt8.reduceToNat, Nat.reduceOr, Nat.reduceAnd, Nat.reduceXor, Nat.reduceDiv, if_pos, if_neg, aStore, frz, AV.flat, ↓reduceIte, ne_eq, reduceCtorEq, Int.reduceToNat, Nat.reduceEqDiff, Nat.reduceAdd, Nat.reduceSub, Nat.reduceMul, Int.reduceAdd, Int.reduceMul, Int.reduceSub, Int.reduceLT, Int.reduceLE, Int.reduceEq, Int.reduceNe, Nat.reduceLeDiff, Nat.reduceLT, Int.reduceNeg, Nat.reducePow, Nat.reduceMod, ByteArray.size])
    | some y =>
      rw [hc, Option.map_some] at hf
      by_cases c2 : y.kind = 2
      · have v2 : decide (y.kind = 2) = true := decide_eq_true c2
        have ho : offB M p = false := by rw [offB, hc]; simp only [v2, Bool.not_true]
        repeat (first | refine wA ?_ | refine wB ?_ | refine wC rfl ?_ | refine wD rfl ?_ | refine wE ?_ | refine wF (by omega) ?_ | ((first | refine wG ?_ | refine wH ?_ | refine wI ?_ | refine wJ ?_ | refine wK ?_ | refine wL ?_); simp (disch := omega) only [wP, wZ, undef, UInt8.reduceToNat, Nat.reduceOr, Nat.reduceAnd, Nat.reduceXor, Nat.reduceDiv, if_pos, if_neg, aStore, frz, AV.flat, ↓reduceIte, ne_eq, reduceCtorEq, Int.reduceToNat, Nat.reduceEqDiff, Nat.reduceAdd, Nat.reduceSub, Nat.reduceMul, Int.reduceAdd, Int.reduceMul, Int.reduceSub, Int.reduceLT, Int.reduceLE, Int.reduceEq, Int.reduceNe, Nat.reduceLeDiff, Nat.reduceLT, Int.reduceNeg, Nat.reducePow, Nat.reduceMod, ByteArray.size, txt, boo, hf, hk, hu, Option.isSome_some, Option.getD_some, entV, entL, v2]))
        refine ⟨g + 1, ⟨any_takeS hi hp ho, by omega⟩, le_mk rfl ?_ ?_ ?_⟩
        · show 6 + g + 1 ≤ 6 + (g + 1); omega
        iterate 2 (case _ => simp (disch := omega) only [wP, wZ, undef, UInt8.reduceToNat, Nat.reduceOr, Nat.reduceAnd, Nat.reduceXor, Nat.reduceDiv, if_pos, if_neg, aStore, frz, AV.flat, ↓reduceIte, ne_eq, reduceCtorEq, Int.reduceToNat, Nat.reduceEqDiff, Nat.reduceAdd, Nat.reduceSub, Nat.reduceMul, Int.reduceAdd, Int.reduceMul, Int.reduceSub, Int.reduceLT, Int.reduceLE, Int.reduceEq, Int.reduceNe, Nat.reduceLeDiff, Nat.reduceLT, Int.reduceNeg, Nat.reducePow, Nat.reduceMod, ByteArray.size])
      · have v2 : decide (y.kind = 2) = false := decide_eq_false c2
        have ho : offB M p = true := by rw [offB, hc]; simp only [v2, Bool.not_false]
        have hz := hoff ho
        subst hz
        repeat (first | refine wA ?_ | refine wB ?_ | refine wC rfl ?_ | refine wD rfl ?_ | refine wE ?_ | refine wF (by omega) ?_ | ((first | refine wG ?_ | refine wH ?_ | refine wI ?_ | refine wJ ?_ | refine wK ?_ | refine wL ?_); simp (disch := omega) only [wP, wZ, undef, UInt8.reduceToNat, Nat.reduceOr, Nat.reduceAnd, Nat.reduceXor, Nat.reduceDiv, if_pos, if_neg, aStore, frz, AV.flat, ↓reduceIte, ne_eq, reduceCtorEq, Int.reduceToNat, Nat.reduceEqDiff, Nat.reduceAdd, Nat.reduceSub, Nat.reduceMul, Int.reduceAdd, Int.reduceMul, Int.reduceSub, Int.reduceLT, Int.reduceLE, Int.reduceEq, Int.reduceNe, Nat.reduceLeDiff, Nat.reduceLT, Int.reduceNeg, Nat.reducePow, Nat.reduceMod, ByteArray.size, txt, boo, hf, hk, hu, Option.isSome_some, Option.getD_some, entV, entL, v2]))
        rw [rq_ret]
        have hkk : k < (upsN e.path e.path.length).length := (List.getElem?_eq_some_iff.1 hp).1
        have hul := ups_len (s := e.path) (n := e.path.length)
        have hgs : 6 + g + 1 ≤ KU + 1 := by unfold KU; omega
        simp (disch := omega) only [wP, wZ, undef, UInt8.reduceToNat, Nat.reduceOr, Nat.reduceAnd, Nat.reduceXor, Nat.reduceDiv, if_pos, if_neg, aStore, frz, AV.flat, ↓reduceIte, ne_eq, reduceCtorEq, Int.reduceToNat, Nat.reduceEqDiff, Nat.reduceAdd, Nat.reduceSub, Nat.reduceMul, Int.reduceAdd, Int.reduceMul, Int.reduceSub, Int.reduceLT, Int.reduceLE, Int.reduceEq, Int.reduceNe, Nat.reduceLeDiff, Nat.reduceLT, Int.reduceNeg, Nat.reducePow, Nat.reduceMod, ByteArray.size, finH_ret]
        omega
  · rintro g ⟨hi, hg⟩
    rw [List.length_map] at hi hg
    rw [List.take_of_length_le (Nat.le_refl _)] at hi
    have hz : Z = false := by rw [hZ, hi]
    subst hz
    have hul := ups_len (s := e.path) (n := e.path.length)
    have hgs : 6 + g ≤ KU + 1 := by unfold KU; omega
    show @SWp _ _ _ _ _ (mk 25 (6 + g) [(2, .op 2 1 0), (4, .op 4 3 0)] [(1000, 0, .row false [.tup (M.map enM)]), (1001, 0, .row false [.tup (U.map upM)]), (2, 1, .row false [.mp 1000 0, .mp 1001 0]), (4, 3, .row false [.sc (.bool false)])])
    repeat (first | refine wA ?_ | refine wB ?_ | refine wC rfl ?_ | refine wD rfl ?_ | refine wE ?_ | refine wF (by omega) ?_ | ((first | refine wG ?_ | refine wH ?_ | refine wI ?_ | refine wJ ?_ | refine wK ?_ | refine wL ?_); simp (disch := omega) only [wP, wZ, undef, UInt8.reduceToNat, Nat.reduceOr, Nat.reduceAnd, Nat.reduceXor, Nat.reduceDiv, if_pos, if_neg, aStore, frz, AV.flat, ↓reduceIte, ne_eq, reduceCtorEq, Int.reduceToNat, Nat.reduceEqDiff, Nat.reduceAdd, Nat.reduceSub, Nat.reduceMul, Int.reduceAdd, Int.reduceMul, Int.reduceSub, Int.reduceLT, Int.reduceLE, Int.reduceEq, Int.reduceNe, Nat.reduceLeDiff, Nat.reduceLT, Int.reduceNeg, Nat.reducePow, Nat.reduceMod, ByteArray.size]))
    exact hgs
end Go.Proofs.YtbmmdkbinlnogaaDoor.Aw
namespace Go.Proofs.YtbmmdkbinlnogaaDoor.Aw
open Go
set_option linter.unusedSimpArgs false
set_option linter.unusedVariables false
def addU (U ps : List (List UInt8)) : List (List UInt8) := ps.foldl (fun V p => putU p V) U
theorem addU_next {U l : List (List UInt8)} {k : Nat} {p : List UInt8} (h : l[k]? = some p) : addU U (l.take (k + 1)) = putU p (addU U (l.take k)) := by
  rw [List.take_add_one, h]
  simp [addU, List.foldl_append]
theorem putU_all {P : List UInt8 → Prop} {p : List UInt8} {U : List (List UInt8)} (hU : ∀ q ∈ U, P q) (hp : P p) : ∀ q ∈ putU p U, P q := by
  intro q hq
  rw [putU] at hq
  split at hq
  · exact hU q hq
  · rcases List.mem_append.1 hq with h | h
    · exact hU q h
    · rw [List.mem_singleton.1 h]; exact hp
theorem addU_all {P : List UInt8 → Prop} : ∀ {l U : List (List UInt8)}, (∀ q ∈ U, P q) → (∀ q ∈ l, P q) → ∀ q ∈ addU U l, P q
  | [], _, hU, _ => hU
  | p :: l, U, hU, hl => by
    rw [addU, List.foldl_cons]
    exact addU_all (putU_all hU (hl p (by simp))) (fun q hq => hl q (by simp [hq]))
set_option maxHeartbeats 2000000 in
set_option maxRecDepth 100000 in
theorem add_h [Tabs Tryd.prog] (M : List Ent) (U : List (List UInt8)) (hM : ∀ e ∈ M, e.path.length ≤ 1000000) (hU : ∀ p ∈ U, p.length ≤ 1000000) (e : Ent) (he : e.path.length ≤ 1000000) (hn : findE e.path M = none) :
    HCon Tryd.prog n_entry_ahead_add [.agg [.mp 1000 0, .mp 1001 0], entV e] (ahI M U) (.tup []) (ahO (M ++ [e]) (addU U (upsN e.path e.path.length))) 10 := by
  refine HCon.of' mix Tryd.func31 rfl Tryd.ntmps31 e_entry_ahead_add r_entry_ahead_add (by simp) ⟨by simp [AV.gl, AV.gl.glL], ent_gl⟩ ah_gl ?_
  unfold s_entry_ahead_add
  obtain ⟨V, hV⟩ : ∃ V, V = addU U (upsN e.path e.path.length) := ⟨_, rfl⟩
  rw [← hV]
  have hu := ents_enM hM
  have hk := like_str he
  have hm := mput_enM hn
  rw [entV, entL] at hm
  simp only [str, int] at hm
  repeat (first | refine wA ?_ | refine wB ?_ | refine wC rfl ?_ | refine wD rfl ?_ | refine wE ?_ | refine wF (by omega) ?_ | ((first | refine wG ?_ | refine wH ?_ | refine wI ?_ | refine wJ ?_ | refine wK ?_ | refine wL ?_); simp (disch := omega) only [wP, wZ, undef, UInt8.reduceToNat, Nat.reduceOr, Nat.reduceAnd, Nat.reduceXor, Nat.reduceDiv, if_pos, if_neg, aStore, frz, AV.flat, ↓reduceIte, ne_eq, reduceCtorEq, Int.reduceToNat, Nat.reduceEqDiff, Nat.reduceAdd, Nat.reduceSub, Nat.reduceMul, Int.reduceAdd, Int.reduceMul, Int.reduceSub, Int.reduceLT, Int.reduceLE, Int.reduceEq, Int.reduceNe, Nat.reduceLeDiff, Nat.reduceLT, Int.reduceNeg, Nat.reducePow, Nat.reduceMod, ByteArray.size, entV, entL, hu, hk, hm]))
  refine goC_h [] 2000 (above_c e.path) (by simp) (by simp) (by simp [handOk]) (by simp [ren.renL, ren, str]) ?_
  repeat (first | refine wA ?_ | refine wB ?_ | refine wC rfl ?_ | refine wD rfl ?_ | refine wE ?_ | refine wF (by omega) ?_ | ((first | refine wG ?_ | refine wH ?_ | refine wI ?_ | refine wJ ?_ | refine wK ?_ | refine wL ?_); simp (disch := omega) only [wP, wZ, undef, UInt8.reduceToNat, Nat.reduceOr, Nat.reduceAnd, Nat.reduceXor, Nat.reduceDiv, if_pos, if_neg, aStore, frz, AV.flat, ↓reduceIte, ne_eq, reduceCtorEq, Int.reduceToNat, Nat.reduceEqDiff, Nat.reduceAdd, Nat.reduceSub, Nat.reduceMul, Int.reduceAdd, Int.reduceMul, Int.reduceSub, Int.reduceLT, Int.reduceLE, Int.reduceEq, Int.reduceNe, Nat.reduceLeDiff, Nat.reduceLT, Int.reduceNeg, Nat.reducePow, Nat.reduceMod, ByteArray.size]))
  refine SWp.le (st' := mk 18 5 [(2, .op 2 1 0), (12, .clo n_entry_above_1 [.op 2001 4 0])] [(1000, 0, .row false [.tup ((M ++ [e]).map enM)]), (1001, 0, .row false [.tup (U.map upM)]), (2, 1, .row false [.mp 1000 0, .mp 1001 0]), (2001, 4, .row false [str e.path])]) (le_mk rfl ?_ ?_ ?_) ?_
  iterate 2 (case _ => simp (disch := omega) only [wP, wZ, undef, UInt8.reduceToNat, Nat.reduceOr, Nat.reduceAnd, Nat.reduceXor, Nat.reduceDiv, if_pos, if_neg, aStore, frz, AV.flat, ↓reduceIte, ne_eq, reduceCtorEq, Int.reduceToNat, Nat.reduceEqDiff, Nat.reduceAdd, Nat.reduceSub, Nat.reduceMul, Int.reduceAdd, Int.reduceMul, Int.reduceSub, Int.reduceLT, Int.reduceLE, Int.reduceEq, Int.reduceNe, Nat.reduceLeDiff, Nat.reduceLT, Int.reduceNeg, Nat.reducePow, Nat.reduceMod, ByteArray.size])
  · simp (disch := omega) only [wP, wZ, undef, UInt8.reduceToNat, Nat.reduceOr, Nat.reduceAnd, Nat.reduceXor, Nat.reduceDiv, if_pos, if_neg, aStore, frz, AV.flat, ↓reduceIte, ne_eq, reduceCtorEq, Int.reduceToNat, Nat.reduceEqDiff, Nat.reduceAdd, Nat.reduceSub, Nat.reduceMul, Int.reduceAdd, Int.reduceMul, Int.reduceSub, Int.reduceLT, Int.reduceLE, Int.reduceEq, Int.reduceNe, Nat.reduceLeDiff, Nat.reduceLT, Int.reduceNeg, Nat.reducePow, Nat.reduceMod, ByteArray.size]
    done
  refine SWp.range (gf := n_entry_above_1) (caps := [.op 2001 4 0]) (hin := [(2001, 4, [str e.path])]) (xs := (upsN e.path e.path.length).map txt) (look [(2, .op 2 1 0)]) (fun W : List (List UInt8) => (lookH [(1000, 0, .row false [.tup ((M ++ [e]).map enM)]), (1001, 0, .row false [.tup (W.map upM)]), (2, 1, .row false [.mp 1000 0, .mp 1001 0])], 5)) (fun W k => W = addU U ((upsN e.path e.path.length).take k)) U rfl (by kernel_rfl) ?_ (above_it 2001 4 e.path he) (by show 13 < 18; omega) rfl ?_ ?_ ?_ ?_
  · intro q hq
    simp only [List.mem_singleton] at hq
    subst hq
    rfl
  · refine le_mk rfl ?_ ?_ ?_
    iterate 3 (case _ => simp (disch := omega) only [wP, wZ, undef, UInt8.reduceToNat, Nat.reduceOr, Nat.reduceAnd, Nat.reduceXor, Nat.reduceDiv, if_pos, if_neg, aStore, frz, AV.flat, ↓reduceIte, ne_eq, reduceCtorEq, Int.reduceToNat, Nat.reduceEqDiff, Nat.reduceAdd, Nat.reduceSub, Nat.reduceMul, Int.reduceAdd, Int.reduceMul, Int.reduceSub, Int.reduceLT, Int.reduceLE, Int.reduceEq, Int.reduceNe, Nat.reduceLeDiff, Nat.reduceLT, Int.reduceNeg, Nat.reducePow, Nat.reduceMod, ByteArray.size])
  · intro q hq
    simp only [List.mem_singleton] at hq
    subst hq
    rfl
  · rintro L W k x hi hx
    show @SWp _ _ L _ _ (mk 18 5 [(13, .sc x), (2, .op 2 1 0)] [(1000, 0, .row false [.tup ((M ++ [e]).map enM)]), (1001, 0, .row false [.tup (W.map upM)]), (2, 1, .row false [.mp 1000 0, .mp 1001 0])])
    rw [List.getElem?_map] at hx
    obtain ⟨p, hp, rfl⟩ := Option.map_eq_some_iff.1 hx
    have hpl : p.length ≤ 1000000 := ups_short e.path he p (List.mem_of_getElem? hp)
    have hk2 := like_str hpl
    have hW : ∀ q ∈ W, q.length ≤ 1000000 := by
      rw [hi]
      exact addU_all hU (fun q hq => ups_short e.path he q (List.mem_of_mem_take hq))
    have hu2 := ents_upM hW
    have hm2 := mput_upM (p := p) (U := W)
    repeat (first | refine wA ?_ | refine wB ?_ | refine wC rfl ?_ | refine wD rfl ?_ | refine wE ?_ | refine wF (by omega) ?_ | ((first | refine wG ?_ | refine wH ?_ | refine wI ?_ | refine wJ ?_ | refine wK ?_ | refine wL ?_); simp (disch := omega) only [wP, wZ, undef, UInt8.reduceToNat, Nat.reduceOr, Nat.reduceAnd, Nat.reduceXor, Nat.reduceDiv, if_pos, if_neg, aStore, frz, AV.flat, ↓reduceIte, ne_eq, reduceCtorEq, Int.reduceToNat, Nat.reduceEqDiff, Nat.reduceAdd, Nat.reduceSub, Nat.reduceMul, Int.reduceAdd, Int.reduceMul, Int.reduceSub, Int.reduceLT, Int.reduceLE, Int.reduceEq, Int.reduceNe, Nat.reduceLeDiff, Nat.reduceLT, Int.reduceNeg, Nat.reducePow, Nat.reduceMod, ByteArray.size, txt, hu2, hk2, hm2]))
    refine ⟨putU p W, by show putU p W = _; rw [addU_next hp, hi], le_mk rfl ?_ ?_ ?_⟩
    iterate 3 (case _ => simp (disch := omega) only [wP, wZ, undef, UInt8.reduceToNat, Nat.reduceOr, Nat.reduceAnd, Nat.reduceXor, Nat.reduceDiv, if_pos, if_neg, aStore, frz, AV.flat, ↓reduceIte, ne_eq, reduceCtorEq, Int.reduceToNat, Nat.reduceEqDiff, Nat.reduceAdd, Nat.reduceSub, Nat.reduceMul, Int.reduceAdd, Int.reduceMul, Int.reduceSub, Int.reduceLT, Int.reduceLE, Int.reduceEq, Int.reduceNe, Nat.reduceLeDiff, Nat.reduceLT, Int.reduceNeg, Nat.reducePow, Nat.reduceMod, ByteArray.size])
  · rintro W hi
    rw [List.length_map, List.take_of_length_le (Nat.le_refl _), ← hV] at hi
    subst hi
    simp (disch := omega) only [wP, wZ, undef, UInt8.reduceToNat, Nat.reduceOr, Nat.reduceAnd, Nat.reduceXor, Nat.reduceDiv, if_pos, if_neg, aStore, frz, AV.flat, ↓reduceIte, ne_eq, reduceCtorEq, Int.reduceToNat, Nat.reduceEqDiff, Nat.reduceAdd, Nat.reduceSub, Nat.reduceMul, Int.reduceAdd, Int.reduceMul, Int.reduceSub, Int.reduceLT, Int.reduceLE, Int.reduceEq, Int.reduceNe, Nat.reduceLeDiff, Nat.reduceLT, Int.reduceNeg, Nat.reducePow, Nat.reduceMod, ByteArray.size, inb, finH_normal]
    rfl
end Go.Proofs.YtbmmdkbinlnogaaDoor.Aw
namespace Go.Proofs.YtbmmdkbinlnogaaDoor.Aw
open Go
set_option linter.unusedSimpArgs false
set_option linter.unusedVariables false
def restV (M : List Ent) (U : List (List UInt8)) (e : Ent) : Int := if underB M e.path = true then 9 else if (decide (e.path ∈ U) && !decide (e.kind = 2)) = true then 9 else 0
def ahdV (M : List Ent) (U : List (List UInt8)) (e : Ent) : Int := if chk e = 0 then (match findE e.path M with | some _ => 8 | none => if e.kind = 4 then (match findE e.link M with | none => 15 | some f => if f.kind = 1 then if alikeB e f = true then restV M U e else 1 else 15) else restV M U e) else chk e
theorem renL_enM {ρ : Nat → Nat → Nat × Nat} {M : List Ent} : ren.renL ρ (M.map enM) = M.map enM := renL_free ρ _ free_enM
theorem renL_upM {ρ : Nat → Nat → Nat × Nat} {U : List (List UInt8)} : ren.renL ρ (U.map upM) = U.map upM := renL_free ρ _ free_upM
theorem findE_mem {p : List UInt8} : ∀ {M : List Ent} {f : Ent}, findE p M = some f → f ∈ M
  | x :: M, f, h => by
    rw [findE] at h
    split at h
    · cases h; simp
    · exact List.mem_cons_of_mem _ (findE_mem h)
set_option maxHeartbeats 4000000 in
set_option maxRecDepth 100000 in
theorem check_h [Tabs Tryd.prog] (hca : CaOk) (M : List Ent) (U : List (List UInt8)) (hM : ∀ e ∈ M, entS e ∧ entI e) (hU : ∀ p ∈ U, p.length ≤ 1000000) (e : Ent) (he : entS e) (hI : entI e) :
    HCon Tryd.prog n_entry_ahead_check [.agg [.mp 1000 0, .mp 1001 0], entV e] (ahI M U) (int (ahdV M U e)) (ahO M U) (KU + 100) := by
  obtain ⟨s1, s2, s3, s4, s5⟩ := id he
  refine HCon.of' mix Tryd.func30 rfl Tryd.ntmps30 e_entry_ahead_check r_entry_ahead_check (by simp) ⟨by simp [AV.gl, AV.gl.glL], ent_gl⟩ ah_gl ?_
  unfold s_entry_ahead_check
  obtain ⟨Z, hZ⟩ : ∃ Z, Z = ahdV M U e := ⟨_, rfl⟩
  rw [← hZ]
  rw [ahdV] at hZ
  have hMp : ∀ x ∈ M, x.path.length ≤ 1000000 := fun x hx => (hM x hx).1.1
  have hu := ents_enM hMp
  have hk1 := like_str s1
  have hk4 := like_str s4
  have hf1 := mfind_enM (p := e.path) (M := M)
  have hf4 := mfind_enM (p := e.link) (M := M)
  repeat (first | refine wA ?_ | refine wB ?_ | refine wC rfl ?_ | refine wD rfl ?_ | refine wE ?_ | refine wF (by omega) ?_ | ((first | refine wG ?_ | refine wH ?_ | refine wI ?_ | refine wJ ?_ | refine wK ?_ | refine wL ?_); simp (disch := omega) only [wP, wZ, undef, UInt8.reduceToNat, Nat.reduceOr, Nat.reduceAnd, Nat.reduceXor, Nat.reduceDiv, if_pos, if_neg, aStore, frz, AV.flat, ↓reduceIte, ne_eq, reduceCtorEq, Int.reduceToNat, Nat.reduceEqDiff, Nat.reduceAdd, Nat.reduceSub, Nat.reduceMul, Int.reduceAdd, Int.reduceMul, Int.reduceSub, Int.reduceLT, Int.reduceLE, Int.reduceEq, Int.reduceNe, Nat.reduceLeDiff, Nat.reduceLT, Int.reduceNeg, Nat.reducePow, Nat.reduceMod, ByteArray.size, entV, entL]))
  refine goC_p _ (.inl ⟨free_entV, Check_c hca e he⟩) ?_
  by_cases h0 : chk e = 0
  case neg =>
    have d0 : decide (chk e = 0) = false := decide_eq_false h0
    rw [if_neg h0] at hZ
    subst hZ
    repeat (first | refine wA ?_ | refine wB ?_ | refine wC rfl ?_ | refine wD rfl ?_ | refine wE ?_ | refine wF (by omega) ?_ | ((first | refine wG ?_ | refine wH ?_ | refine wI ?_ | refine wJ ?_ | refine wK ?_ | refine wL ?_); simp (disch := omega) only [wP, wZ, undef, UInt8.reduceToNat, Nat.reduceOr, Nat.reduceAnd, Nat.reduceXor, Nat.reduceDiv, if_pos, if_neg, aStore, frz, AV.flat, ↓reduceIte, ne_eq, reduceCtorEq, Int.reduceToNat, Nat.reduceEqDiff, Nat.reduceAdd, Nat.reduceSub, Nat.reduceMul, Int.reduceAdd, Int.reduceMul, Int.reduceSub, Int.reduceLT, Int.reduceLE, Int.reduceEq, Int.reduceNe, Nat.reduceLeDiff, Nat.reduceLT, Int.reduceNeg, Nat.reducePow, Nat.reduceMod, ByteArray.size, d0]))
  have d0 : decide (chk e = 0) = true := decide_eq_true h0
  rw [if_pos h0] at hZ
  cases g1 : findE e.path M with
  | some y =>
    rw [g1] at hZ
    rw [g1, Option.map_some] at hf1
    simp only at hZ
    subst hZ
    repeat (first | refine wA ?_ | refine wB ?_ | refine wC rfl ?_ | refine wD rfl ?_ | refine wE ?_ | refine wF (by omega) ?_ | ((first | refine wG ?_ | refine wH ?_ | refine wI ?_ | refine wJ ?_ | refine wK ?_ | refine wL ?_); simp (disch := omega) only [wP, wZ, undef, UInt8.reduceToNat, Nat.reduceOr, Nat.reduceAnd, Nat.reduceXor, Nat.reduceDiv, if_pos, if_neg, aStore, frz, AV.flat, ↓reduceIte, ne_eq, reduceCtorEq, Int.reduceToNat, Nat.reduceEqDiff, Nat.reduceAdd, Nat.reduceSub, Nat.reduceMul, Int.reduceAdd, Int.reduceMul, Int.reduceSub, Int.reduceLT, Int.reduceLE, Int.reduceEq, Int.reduceNe, Nat.reduceLeDiff, Nat.reduceLT, Int.reduceNeg, Nat.reducePow, Nat.reduceMod, ByteArray.size, boo, d0, hf1, hk1, hu, Option.isSome_some, Option.getD_some, entV, entL]))
    done
  | none =>
    rw [g1] at hZ
    rw [g1, Option.map_none] at hf1
    simp only at hZ
    by_cases h4 : e.kind = 4
    case' pos =>
      have d4 : decide (e.kind = 4) = true := decide_eq_true h4
      rw [if_pos h4] at hZ
      cases g2 : findE e.link M
      case none =>
        rw [g2] at hZ
        rw [g2, Option.map_none] at hf4
        simp only at hZ
        subst hZ
        repeat (first | refine wA ?_ | refine wB ?_ | refine wC rfl ?_ | refine wD rfl ?_ | refine wE ?_ | refine wF (by omega) ?_ | ((first | refine wG ?_ | refine wH ?_ | refine wI ?_ | refine wJ ?_ | refine wK ?_ | refine wL ?_); simp (disch := omega) only [wP, wZ, undef, UInt8.reduceToNat, Nat.reduceOr, Nat.reduceAnd, Nat.reduceXor, Nat.reduceDiv, if_pos, if_neg, aStore, frz, AV.flat, ↓reduceIte, ne_eq, reduceCtorEq, Int.reduceToNat, Nat.reduceEqDiff, Nat.reduceAdd, Nat.reduceSub, Nat.reduceMul, Int.reduceAdd, Int.reduceMul, Int.reduceSub, Int.reduceLT, Int.reduceLE, Int.reduceEq, Int.reduceNe, Nat.reduceLeDiff, Nat.reduceLT, Int.reduceNeg, Nat.reducePow, Nat.reduceMod, ByteArray.size, boo, d0, d4, hf1, hk1, hf4, hk4, hu, Option.isSome_none, z10, entV, entL]))
        done
      case' some f =>
        rw [g2] at hZ
        rw [g2, Option.map_some] at hf4
        simp only at hZ
        have hfm := hM f (findE_mem g2)
        by_cases h6 : f.kind = 1
        case neg =>
          have d6 : decide (f.kind = 1) = false := decide_eq_false h6
          rw [if_neg h6] at hZ
          subst hZ
          repeat (first | refine wA ?_ | refine wB ?_ | refine wC rfl ?_ | refine wD rfl ?_ | refine wE ?_ | refine wF (by omega) ?_ | ((first | refine wG ?_ | refine wH ?_ | refine wI ?_ | refine wJ ?_ | refine wK ?_ | refine wL ?_); simp (disch := omega) only [wP, wZ, undef, UInt8.reduceToNat, Nat.reduceOr, Nat.reduceAnd, Nat.reduceXor, Nat.reduceDiv, if_pos, if_neg, aStore, frz, AV.flat, ↓reduceIte, ne_eq, reduceCtorEq, Int.reduceToNat, Nat.reduceEqDiff, Nat.reduceAdd, Nat.reduceSub, Nat.reduceMul, Int.reduceAdd, Int.reduceMul, Int.reduceSub, Int.reduceLT, Int.reduceLE, Int.reduceEq, Int.reduceNe, Nat.reduceLeDiff, Nat.reduceLT, Int.reduceNeg, Nat.reducePow, Nat.reduceMod, ByteArray.size, boo, d0, d4, d6, hf1, hk1, hf4, hk4, hu, Option.isSome_none, Option.isSome_some, Option.getD_some, z10, entV, entL]))
          done
        have d6 : decide (f.kind = 1) = true := decide_eq_true h6
        rw [if_pos h6] at hZ
        repeat (first | refine wA ?_ | refine wB ?_ | refine wC rfl ?_ | refine wD rfl ?_ | refine wE ?_ | refine wF (by omega) ?_ | ((first | refine wG ?_ | refine wH ?_ | refine wI ?_ | refine wJ ?_ | refine wK ?_ | refine wL ?_); simp (disch := omega) only [wP, wZ, undef, UInt8.reduceToNat, Nat.reduceOr, Nat.reduceAnd, Nat.reduceXor, Nat.reduceDiv, if_pos, if_neg, aStore, frz, AV.flat, ↓reduceIte, ne_eq, reduceCtorEq, Int.reduceToNat, Nat.reduceEqDiff, Nat.reduceAdd, Nat.reduceSub, Nat.reduceMul, Int.reduceAdd, Int.reduceMul, Int.reduceSub, Int.reduceLT, Int.reduceLE, Int.reduceEq, Int.reduceNe, Nat.reduceLeDiff, Nat.reduceLT, Int.reduceNeg, Nat.reducePow, Nat.reduceMod, ByteArray.size, boo, d0, d4, d6, hf1, hk1, hf4, hk4, hu, Option.isSome_none, Option.isSome_some, Option.getD_some, z10, entV, entL]))
        refine goC_p _ (.inl ⟨free_entV, rightsOf_c e⟩) ?_
        repeat (first | refine wA ?_ | refine wB ?_ | refine wC rfl ?_ | refine wD rfl ?_ | refine wE ?_ | refine wF (by omega) ?_ | ((first | refine wG ?_ | refine wH ?_ | refine wI ?_ | refine wJ ?_ | refine wK ?_ | refine wL ?_); simp (disch := omega) only [wP, wZ, undef, UInt8.reduceToNat, Nat.reduceOr, Nat.reduceAnd, Nat.reduceXor, Nat.reduceDiv, if_pos, if_neg, aStore, frz, AV.flat, ↓reduceIte, ne_eq, reduceCtorEq, Int.reduceToNat, Nat.reduceEqDiff, Nat.reduceAdd, Nat.reduceSub, Nat.reduceMul, Int.reduceAdd, Int.reduceMul, Int.reduceSub, Int.reduceLT, Int.reduceLE, Int.reduceEq, Int.reduceNe, Nat.reduceLeDiff, Nat.reduceLT, Int.reduceNeg, Nat.reducePow, Nat.reduceMod, ByteArray.size, entL]))
        refine goC_p _ (.inl ⟨free_entV, rightsOf_c f⟩) ?_
        have l1 := like_rgt hI s2 s3
        have l2 := like_rgt hfm.2 hfm.1.2.1 hfm.1.2.2.1
        have hq := eqB_rgt (a := e) (b := f)
        cases h7 : alikeB e f
        · rw [h7, if_neg (by decide)] at hZ
          rw [h7] at hq
          subst hZ
          repeat (first | refine wA ?_ | refine wB ?_ | refine wC rfl ?_ | refine wD rfl ?_ | refine wE ?_ | refine wF (by omega) ?_ | ((first | refine wG ?_ | refine wH ?_ | refine wI ?_ | refine wJ ?_ | refine wK ?_ | refine wL ?_); simp (disch := omega) only [wP, wZ, undef, UInt8.reduceToNat, Nat.reduceOr, Nat.reduceAnd, Nat.reduceXor, Nat.reduceDiv, if_pos, if_neg, aStore, frz, AV.flat, ↓reduceIte, ne_eq, reduceCtorEq, Int.reduceToNat, Nat.reduceEqDiff, Nat.reduceAdd, Nat.reduceSub, Nat.reduceMul, Int.reduceAdd, Int.reduceMul, Int.reduceSub, Int.reduceLT, Int.reduceLE, Int.reduceEq, Int.reduceNe, Nat.reduceLeDiff, Nat.reduceLT, Int.reduceNeg, Nat.reducePow, Nat.reduceMod, ByteArray.size, boo, l1, l2, hq]))
          done
        rw [h7, if_pos rfl] at hZ
        rw [h7] at hq
        repeat (first | refine wA ?_ | refine wB ?_ | refine wC rfl ?_ | refine wD rfl ?_ | refine wE ?_ | refine wF (by omega) ?_ | ((first | refine wG ?_ | refine wH ?_ | refine wI ?_ | refine wJ ?_ | refine wK ?_ | refine wL ?_); simp (disch := omega) only [wP, wZ, undef, UInt8.reduceToNat, Nat.reduceOr, Nat.reduceAnd, Nat.reduceXor, Nat.reduceDiv, if_pos, if_neg, aStore, frz, AV.flat, ↓reduceIte, ne_eq, reduceCtorEq, Int.reduceToNat, Nat.reduceEqDiff, Nat.reduceAdd, Nat.reduceSub, Nat.reduceMul, Int.reduceAdd, Int.reduceMul, Int.reduceSub, Int.reduceLT, Int.reduceLE, Int.reduceEq, Int.reduceNe, Nat.reduceLeDiff, Nat.reduceLT, Int.reduceNeg, Nat.reducePow, Nat.reduceMod, ByteArray.size, boo, l1, l2, hq, entL]))
    case' neg =>
      have d4 : decide (e.kind = 4) = false := decide_eq_false h4
      rw [if_neg h4] at hZ
      repeat (first | refine wA ?_ | refine wB ?_ | refine wC rfl ?_ | refine wD rfl ?_ | refine wE ?_ | refine wF (by omega) ?_ | ((first | refine wG ?_ | refine wH ?_ | refine wI ?_ | refine wJ ?_ | refine wK ?_ | refine wL ?_); simp (disch := omega) only [wP, wZ, undef, UInt8.reduceToNat, Nat.reduceOr, Nat.reduceAnd, Nat.reduceXor, Nat.reduceDiv, if_pos, if_neg, aStore, frz, AV.flat, ↓reduceIte, ne_eq, reduceCtorEq, Int.reduceToNat, Nat.reduceEqDiff, Nat.reduceAdd, Nat.reduceSub, Nat.reduceMul, Int.reduceAdd, Int.reduceMul, Int.reduceSub, Int.reduceLT, Int.reduceLE, Int.reduceEq, Int.reduceNe, Nat.reduceLeDiff, Nat.reduceLT, Int.reduceNeg, Nat.reducePow, Nat.reduceMod, ByteArray.size, boo, d0, d4, hf1, hk1, hu, Option.isSome_none, z10, entV, entL]))
    all_goals
      rw [restV] at hZ
      refine goC_h [(1000, 0), (1001, 0)] 3000 (isUnderOther_h M U hMp e s1) (by simp) (by simp) ?_ ?_ ?_
      · simp (disch := omega) only [wP, wZ, undef, UInt8.reduceToNat, Nat.reduceOr, Nat.reduceAnd, Nat.reduceXor, Nat.reduceDiv, if_pos, if_neg, aStore, frz, AV.flat, ↓reduceIte, ne_eq, reduceCtorEq, Int.reduceToNat, Nat.reduceEqDiff, Nat.reduceAdd, Nat.reduceSub, Nat.reduceMul, Int.reduceAdd, Int.reduceMul, Int.reduceSub, Int.reduceLT, Int.reduceLE, Int.reduceEq, Int.reduceNe, Nat.reduceLeDiff, Nat.reduceLT, Int.reduceNeg, Nat.reducePow, Nat.reduceMod, ByteArray.size, renL_enM, renL_upM]
      · simp (disch := omega) only [wP, wZ, undef, UInt8.reduceToNat, Nat.reduceOr, Nat.reduceAnd, Nat.reduceXor, Nat.reduceDiv, if_pos, if_neg, aStore, frz, AV.flat, ↓reduceIte, ne_eq, reduceCtorEq, Int.reduceToNat, Nat.reduceEqDiff, Nat.reduceAdd, Nat.reduceSub, Nat.reduceMul, Int.reduceAdd, Int.reduceMul, Int.reduceSub, Int.reduceLT, Int.reduceLE, Int.reduceEq, Int.reduceNe, Nat.reduceLeDiff, Nat.reduceLT, Int.reduceNeg, Nat.reducePow, Nat.reduceMod, ByteArray.size, entV, entL, renL_free _ _ free_u8]
        done
      cases c1 : underB M e.path
      case true =>
        rw [c1, if_pos rfl] at hZ
        subst hZ
        repeat (first | refine wA ?_ | refine wB ?_ | refine wC rfl ?_ | refine wD rfl ?_ | refine wE ?_ | refine wF (by omega) ?_ | ((first | refine wG ?_ | refine wH ?_ | refine wI ?_ | refine wJ ?_ | refine wK ?_ | refine wL ?_); simp (disch := omega) only [wP, wZ, undef, UInt8.reduceToNat, Nat.reduceOr, Nat.reduceAnd, Nat.reduceXor, Nat.reduceDiv, if_pos, if_neg, aStore, frz, AV.flat, ↓reduceIte, ne_eq, reduceCtorEq, Int.reduceToNat, Nat.reduceEqDiff, Nat.reduceAdd, Nat.reduceSub, Nat.reduceMul, Int.reduceAdd, Int.reduceMul, Int.reduceSub, Int.reduceLT, Int.reduceLE, Int.reduceEq, Int.reduceNe, Nat.reduceLeDiff, Nat.reduceLT, Int.reduceNeg, Nat.reducePow, Nat.reduceMod, ByteArray.size, boo, renL_enM, renL_upM]))
        omega
      rw [c1, if_neg (by decide)] at hZ
      repeat (first | refine wA ?_ | refine wB ?_ | refine wC rfl ?_ | refine wD rfl ?_ | refine wE ?_ | refine wF (by omega) ?_ | ((first | refine wG ?_ | refine wH ?_ | refine wI ?_ | refine wJ ?_ | refine wK ?_ | refine wL ?_); simp (disch := omega) only [wP, wZ, undef, UInt8.reduceToNat, Nat.reduceOr, Nat.reduceAnd, Nat.reduceXor, Nat.reduceDiv, if_pos, if_neg, aStore, frz, AV.flat, ↓reduceIte, ne_eq, reduceCtorEq, Int.reduceToNat, Nat.reduceEqDiff, Nat.reduceAdd, Nat.reduceSub, Nat.reduceMul, Int.reduceAdd, Int.reduceMul, Int.reduceSub, Int.reduceLT, Int.reduceLE, Int.reduceEq, Int.reduceNe, Nat.reduceLeDiff, Nat.reduceLT, Int.reduceNeg, Nat.reducePow, Nat.reduceMod, ByteArray.size, boo, entL, renL_enM, renL_upM]))
      refine goC_h [(1000, 0), (1001, 0)] 6000 (isAboveOne_h M U hMp hU e s1) (by simp) (by simp) ?_ ?_ ?_
      iterate 2 (case _ => simp (disch := omega) only [wP, wZ, undef, UInt8.reduceToNat, Nat.reduceOr, Nat.reduceAnd, Nat.reduceXor, Nat.reduceDiv, if_pos, if_neg, aStore, frz, AV.flat, ↓reduceIte, ne_eq, reduceCtorEq, Int.reduceToNat, Nat.reduceEqDiff, Nat.reduceAdd, Nat.reduceSub, Nat.reduceMul, Int.reduceAdd, Int.reduceMul, Int.reduceSub, Int.reduceLT, Int.reduceLE, Int.reduceEq, Int.reduceNe, Nat.reduceLeDiff, Nat.reduceLT, Int.reduceNeg, Nat.reducePow, Nat.reduceMod, ByteArray.size, renL_enM, renL_upM, entV, entL, renL_free _ _ free_u8])
      cases c2 : (decide (e.path ∈ U) && !decide (e.kind = 2))
      · rw [c2, if_neg (by decide)] at hZ
        subst hZ
        repeat (first | refine wA ?_ | refine wB ?_ | refine wC rfl ?_ | refine wD rfl ?_ | refine wE ?_ | refine wF (by omega) ?_ | ((first | refine wG ?_ | refine wH ?_ | refine wI ?_ | refine wJ ?_ | refine wK ?_ | refine wL ?_); simp (disch := omega) only [wP, wZ, undef, UInt8.reduceToNat, Nat.reduceOr, Nat.reduceAnd, Nat.reduceXor, Nat.reduceDiv, if_pos, if_neg, aStore, frz, AV.flat, ↓reduceIte, ne_eq, reduceCtorEq, Int.reduceToNat, Nat.reduceEqDiff, Nat.reduceAdd, Nat.reduceSub, Nat.reduceMul, Int.reduceAdd, Int.reduceMul, Int.reduceSub, Int.reduceLT, Int.reduceLE, Int.reduceEq, Int.reduceNe, Nat.reduceLeDiff, Nat.reduceLT, Int.reduceNeg, Nat.reducePow, Nat.reduceMod, ByteArray.size, boo, renL_enM, renL_upM]))
        omega
      · rw [c2, if_pos rfl] at hZ
        subst hZ
        repeat (first | refine wA ?_ | refine wB ?_ | refine wC rfl ?_ | refine wD rfl ?_ | refine wE ?_ | refine wF (by omega) ?_ | ((first | refine wG ?_ | refine wH ?_ | refine wI ?_ | refine wJ ?_ | refine wK ?_ | refine wL ?_); simp (disch := omega) only [wP, wZ, undef, UInt8.reduceToNat, Nat.reduceOr, Nat.reduceAnd, Nat.reduceXor, Nat.reduceDiv, if_pos, if_neg, aStore, frz, AV.flat, ↓reduceIte, ne_eq, reduceCtorEq, Int.reduceToNat, Nat.reduceEqDiff, Nat.reduceAdd, Nat.reduceSub, Nat.reduceMul, Int.reduceAdd, Int.reduceMul, Int.reduceSub, Int.reduceLT, Int.reduceLE, Int.reduceEq, Int.reduceNe, Nat.reduceLeDiff, Nat.reduceLT, Int.reduceNeg, Nat.reducePow, Nat.reduceMod, ByteArray.size, boo, renL_enM, renL_upM]))
        omega
end Go.Proofs.YtbmmdkbinlnogaaDoor.Aw
namespace Go.Proofs.YtbmmdkbinlnogaaDoor.Aw
open Go
set_option linter.unusedSimpArgs false
set_option linter.unusedVariables false
theorem posOf_findE {p : List UInt8} : ∀ {l : List Ent}, (posOf p l < 0 ↔ findE p l = none) ∧ fileAt p l = findE p l
  | [] => ⟨by simp [posOf, findE], by simp [fileAt, posOf, findE]⟩
  | e :: l => by
    have ih := posOf_findE (p := p) (l := l)
    have hg := posOf_ge (p := p) (l := l)
    by_cases h : e.path = p
    · have h' : p = e.path := h.symm
      refine ⟨?_, ?_⟩
      · rw [posOf, findE, if_pos h, if_pos h']
        simp
      · rw [fileAt, posOf, findE, if_pos h, if_pos h', if_neg (by omega)]
        rfl
    · have h' : ¬ p = e.path := fun x => h x.symm
      by_cases c : posOf p l < 0
      · have c2 := ih.1.1 c
        refine ⟨?_, ?_⟩
        · rw [posOf, findE, if_neg h, if_neg h', if_pos c, c2]
          simp
        · rw [fileAt, posOf, findE, if_neg h, if_neg h', if_pos c, c2]
          rfl
      · refine ⟨?_, ?_⟩
        · rw [posOf, findE, if_neg h, if_neg h', if_neg c]
          constructor
          · intro x; omega
          · intro x; exact absurd (ih.1.2 x) c
        · have i2 := ih.2
          rw [fileAt, if_neg c] at i2
          rw [fileAt, posOf, findE, if_neg h, if_neg h', if_neg c, if_neg (by omega), ← i2]
          rw [show (posOf p l + 1).toNat = (posOf p l).toNat + 1 by omega]
          rfl
theorem mem_upsN {s q : List UInt8} : ∀ {n : Nat}, q ∈ upsN s n ↔ ∃ m, m < n ∧ s.getD m 0 = 47 ∧ q = s.take m
  | 0 => by simp [upsN]
  | n + 1 => by
    rw [upsN]
    by_cases h : s.getD n 0 = 47
    · rw [if_pos h, List.mem_cons, mem_upsN]
      constructor
      · rintro (rfl | ⟨m, h1, h2, h3⟩)
        · exact ⟨n, by omega, h, rfl⟩
        · exact ⟨m, by omega, h2, h3⟩
      · rintro ⟨m, h1, h2, h3⟩
        by_cases e : m = n
        · subst e; exact .inl h3
        · exact .inr ⟨m, by omega, h2, h3⟩
    · rw [if_neg h, mem_upsN]
      constructor
      · rintro ⟨m, h1, h2, h3⟩
        exact ⟨m, by omega, h2, h3⟩
      · rintro ⟨m, h1, h2, h3⟩
        by_cases e : m = n
        · subst e; exact absurd h2 h
        · exact ⟨m, by omega, h2, h3⟩
theorem abv_ups {a s : List UInt8} : abv a s = true ↔ a ∈ upsN s s.length := by
  rw [mem_upsN]
  simp only [abv, Bool.and_eq_true, decide_eq_true_eq]
  constructor
  · rintro ⟨h1, h2, h3⟩
    exact ⟨a.length, h1, h3, h2.symm⟩
  · rintro ⟨m, h1, h2, rfl⟩
    have : (s.take m).length = m := by rw [List.length_take]; omega
    rw [this]
    exact ⟨h1, rfl, h2⟩
def oneEach (M : List Ent) : Prop := ∀ x ∈ M, findE x.path M = some x
theorem findE_path {p : List UInt8} : ∀ {M : List Ent} {x : Ent}, findE p M = some x → x.path = p
  | y :: M, x, h => by
    rw [findE] at h
    split at h
    · rename_i c
      cases h
      exact c.symm
    · exact findE_path h
theorem under_any {M : List Ent} (h : oneEach M) {s : List UInt8} : underB M s = M.any fun x => abv x.path s && !decide (x.kind = 2) := by
  rw [Bool.eq_iff_iff, underB, List.any_eq_true, List.any_eq_true]
  constructor
  · rintro ⟨p, hp, ho⟩
    rw [offB] at ho
    cases hc : findE p M with
    | none => rw [hc] at ho; cases ho
    | some x =>
      rw [hc] at ho
      have hx := findE_path hc
      refine ⟨x, findE_mem hc, ?_⟩
      rw [hx, abv_ups.2 hp]
      exact ho
  · rintro ⟨x, hx, ho⟩
    rw [Bool.and_eq_true] at ho
    refine ⟨x.path, abv_ups.1 ho.1, ?_⟩
    rw [offB, h x hx]
    exact ho.2
def upsAll (M : List Ent) : List (List UInt8) := M.foldl (fun V x => addU V (upsN x.path x.path.length)) []
theorem mem_addU {q : List UInt8} : ∀ {l U : List (List UInt8)}, q ∈ addU U l ↔ q ∈ U ∨ q ∈ l
  | [], U => by simp [addU]
  | p :: l, U => by
    rw [addU, List.foldl_cons]
    have := mem_addU (q := q) (l := l) (U := putU p U)
    rw [addU] at this
    rw [this, putU, List.mem_cons]
    by_cases c : p ∈ U
    · rw [if_pos c]
      constructor
      · rintro (h | h)
        · exact .inl h
        · exact .inr (.inr h)
      · rintro (h | rfl | h)
        · exact .inl h
        · exact .inl c
        · exact .inr h
    · rw [if_neg c, List.mem_append, List.mem_singleton, or_assoc]
theorem mem_foldU {q : List UInt8} : ∀ {M : List Ent} {U : List (List UInt8)}, q ∈ M.foldl (fun V x => addU V (upsN x.path x.path.length)) U ↔ q ∈ U ∨ ∃ x ∈ M, abv q x.path = true
  | [], U => by simp
  | y :: M, U => by
    rw [List.foldl_cons, mem_foldU, mem_addU, or_assoc]
    simp only [List.mem_cons, exists_eq_or_imp, abv_ups]
theorem rest_clash {M : List Ent} (h : oneEach M) {e : Ent} : restV M (upsAll M) e = clash M e := by
  have hall : M.all (fitsB e) = !(underB M e.path || (decide (e.path ∈ upsAll M) && !decide (e.kind = 2))) := by
    rw [under_any h]
    have hm : decide (e.path ∈ upsAll M) = M.any fun x => abv e.path x.path := by
      rw [Bool.eq_iff_iff, decide_eq_true_eq, upsAll, mem_foldU, List.any_eq_true]
      simp
    rw [hm]
    clear hm h
    induction M with
    | nil => simp
    | cons x M ih =>
      rw [List.all_cons, ih, List.any_cons, List.any_cons, fitsB]
      cases abv x.path e.path <;> cases abv e.path x.path <;> cases decide (x.kind = 2) <;> cases decide (e.kind = 2) <;> simp
  rw [restV, clash, hall]
  cases underB M e.path <;> cases (decide (e.path ∈ upsAll M) && !decide (e.kind = 2)) <;> rfl
theorem alike_comm {a b : Ent} : alikeB a b = alikeB b a := by
  simp only [alikeB, eq_comm (a := a.mode), eq_comm (a := a.uid), eq_comm (a := a.gid), eq_comm (a := a.owner), eq_comm (a := a.group), eq_comm (a := a.mtime)]
theorem ahd_bad {M : List Ent} (h : oneEach M) {e : Ent} : ahdV M (upsAll M) e = badE M e := by
  have h1 := posOf_findE (p := e.path) (l := M)
  have h2 := posOf_findE (p := e.link) (l := M)
  rw [ahdV, badE, rest_clash h, h2.2]
  by_cases c : chk e = 0
  · rw [if_pos c, if_pos c]
    cases hf : findE e.path M with
    | none =>
      rw [if_pos (h1.1.2 hf)]
      simp only [alike_comm (a := e)]
      rfl
    | some y =>
      have hn : ¬ posOf e.path M < 0 := fun x => by
        rw [h1.1.1 x] at hf
        cases hf
      simp only [if_neg hn]
  · rw [if_neg c, if_neg c]
end Go.Proofs.YtbmmdkbinlnogaaDoor.Aw
namespace Go.Proofs.YtbmmdkbinlnogaaDoor.Aw
open Go
set_option linter.unusedSimpArgs false
set_option linter.unusedVariables false
theorem findE_app {p : List UInt8} {e : Ent} : ∀ {M : List Ent}, findE p (M ++ [e]) = match findE p M with | some x => some x | none => if p = e.path then some e else none
  | [] => rfl
  | x :: M => by
    rw [List.cons_append, findE, findE]
    by_cases h : p = x.path
    · rw [if_pos h, if_pos h]
    · rw [if_neg h, if_neg h]; exact findE_app
theorem oneEach_app {M : List Ent} {e : Ent} (h : oneEach M) (hn : findE e.path M = none) : oneEach (M ++ [e]) := by
  intro x hx
  rw [findE_app]
  rcases List.mem_append.1 hx with hx | hx
  · rw [h x hx]
  · rw [List.mem_singleton.1 hx, hn]
    simp
theorem bad_zero {M : List Ent} {e : Ent} (h : badE M e = 0) : findE e.path M = none := by
  rw [badE] at h
  by_cases c : chk e = 0
  · rw [if_pos c] at h
    by_cases d : posOf e.path M < 0
    · exact posOf_findE.1.1 d
    · simp only [if_neg d] at h
      exact absurd h (by decide)
  · rw [if_neg c] at h
    exact absurd h c
theorem upsAll_app {M : List Ent} {e : Ent} : upsAll (M ++ [e]) = addU (upsAll M) (upsN e.path e.path.length) := by
  rw [upsAll, List.foldl_append]
  rfl
theorem upsAll_short {M : List Ent} (h : ∀ e ∈ M, e.path.length ≤ 1000000) : ∀ p ∈ upsAll M, p.length ≤ 1000000 := by
  intro p hp
  rw [upsAll, mem_foldU] at hp
  rcases hp with hp | ⟨x, hx, ha⟩
  · cases hp
  · exact ups_short x.path (h x hx) p (abv_ups.1 ha)
set_option maxHeartbeats 4000000 in
set_option maxRecDepth 100000 in
theorem CheckAll_c [Tabs Tryd.prog] (hca : CaOk) (nl : Bool) (l : List Ent) (hl : l.length ≤ 1000000) (hs : ∀ e ∈ l, entS e ∧ entI e) : Con Tryd.prog n_entry_CheckAll [.sl nl (some 10) (l.map entV)] (.tup [int (chkAll l).1, int (chkAll l).2]) := by
  refine Con.of' mix Tryd.func15 rfl Tryd.ntmps15 e_entry_CheckAll r_entry_CheckAll (by simp) (by simp only [AV.free, AV.free.freeL, free_ents, Bool.and_self]) rfl ?_
  unfold s_entry_CheckAll
  obtain ⟨Z, hZ⟩ : ∃ Z, Z = chkAll l := ⟨_, rfl⟩
  rw [← hZ]
  rw [chkAll] at hZ
  by_cases h1 : 4096 < l.length
  · have d1 : decide ((4096 : Int) < (l.length : Int)) = true := decide_eq_true (by omega)
    rw [if_pos h1] at hZ
    subst hZ
    repeat (first | refine wA ?_ | refine wB ?_ | refine wC rfl ?_ | refine wD rfl ?_ | refine wE ?_ | refine wF (by omega) ?_ | ((first | refine wG ?_ | refine wH ?_ | refine wI ?_ | refine wJ ?_ | refine wK ?_ | refine wL ?_); simp (disch := omega) only [wP, wZ, undef, UInt8.reduceToNat, Nat.reduceOr, Nat.reduceAnd, Nat.reduceXor, Nat.reduceDiv, if_pos, if_neg, aStore, frz, AV.flat, ↓reduceIte, ne_eq, reduceCtorEq, Int.reduceToNat, Nat.reduceEqDiff, Nat.reduceAdd, Nat.reduceSub, Nat.reduceMul, Int.reduceAdd, Int.reduceMul, Int.reduceSub, Int.reduceLT, Int.reduceLE, Int.reduceEq, Int.reduceNe, Nat.reduceLeDiff, Nat.reduceLT, Int.reduceNeg, Nat.reducePow, Nat.reduceMod, ByteArray.size, d1, List.length_map]))
  have d1 : decide ((4096 : Int) < (l.length : Int)) = false := decide_eq_false (by omega)
  rw [if_neg h1] at hZ
  repeat (first | refine wA ?_ | refine wB ?_ | refine wC rfl ?_ | refine wD rfl ?_ | refine wE ?_ | refine wF (by omega) ?_ | ((first | refine wG ?_ | refine wH ?_ | refine wI ?_ | refine wJ ?_ | refine wK ?_ | refine wL ?_); simp (disch := omega) only [wP, wZ, undef, UInt8.reduceToNat, Nat.reduceOr, Nat.reduceAnd, Nat.reduceXor, Nat.reduceDiv, if_pos, if_neg, aStore, frz, AV.flat, ↓reduceIte, ne_eq, reduceCtorEq, Int.reduceToNat, Nat.reduceEqDiff, Nat.reduceAdd, Nat.reduceSub, Nat.reduceMul, Int.reduceAdd, Int.reduceMul, Int.reduceSub, Int.reduceLT, Int.reduceLE, Int.reduceEq, Int.reduceNe, Nat.reduceLeDiff, Nat.reduceLT, Int.reduceNeg, Nat.reducePow, Nat.reduceMod, ByteArray.size, d1, List.length_map]))
  refine SWp.loop (α := Nat × Nat) (fun x => mk 32 x.2 [(4, .op 4 2 0), (14, .sl nl (some 10) (l.map entV)), (15, int l.length), (16, int x.1)] [(11, 0, .row false [.tup ((l.take x.1).map enM)]), (12, 1, .row false [.tup ((upsAll (l.take x.1)).map upM)]), (4, 2, .row false [.mp 11 0, .mp 12 1])])
    (fun x => x.1 ≤ l.length ∧ Z = badAt (l.take x.1) (l.drop x.1) x.1 ∧ oneEach (l.take x.1)) (fun x => l.length - x.1) (0, 3) ⟨Nat.zero_le _, hZ, fun x hx => by cases hx⟩ (le_mk rfl ?_ ?_ ?_) ?_
  · exact Nat.le_refl _
  · simp (disch := omega) only [wP, wZ, undef, UInt8.reduceToNat, Nat.reduceOr, Nat.reduceAnd, Nat.reduceXor, Nat.reduceDiv, if_pos, if_neg, aStore, frz, AV.flat, ↓reduceIte, ne_eq, reduceCtorEq, Int.reduceToNat, Nat.reduceEqDiff, Nat.reduceAdd, Nat.reduceSub, Nat.reduceMul, Int.reduceAdd, Int.reduceMul, Int.reduceSub, Int.reduceLT, Int.reduceLE, Int.reduceEq, Int.reduceNe, Nat.reduceLeDiff, Nat.reduceLT, Int.reduceNeg, Nat.reducePow, Nat.reduceMod, ByteArray.size]
  · simp (disch := omega) only [wP, wZ, undef, UInt8.reduceToNat, Nat.reduceOr, Nat.reduceAnd, Nat.reduceXor, Nat.reduceDiv, if_pos, if_neg, aStore, frz, AV.flat, ↓reduceIte, ne_eq, reduceCtorEq, Int.reduceToNat, Nat.reduceEqDiff, Nat.reduceAdd, Nat.reduceSub, Nat.reduceMul, Int.reduceAdd, Int.reduceMul, Int.reduceSub, Int.reduceLT, Int.reduceLE, Int.reduceEq, Int.reduceNe, Nat.reduceLeDiff, Nat.reduceLT, Int.reduceNeg, Nat.reducePow, Nat.reduceMod, ByteArray.size, List.take_zero, List.map_nil, show upsAll [] = [] from rfl]
  rintro ⟨k, g⟩ ⟨hk, hz, ho⟩ -
  simp only at hk hz ho
  by_cases hk' : k < l.length
  case neg =>
    have dk : decide ((k : Int) < (l.length : Int)) = false := decide_eq_false (by omega)
    rw [List.drop_eq_nil_of_le (by omega), badAt] at hz
    subst hz
    repeat (first | refine wA ?_ | refine wB ?_ | refine wC rfl ?_ | refine wD rfl ?_ | refine wE ?_ | refine wF (by omega) ?_ | ((first | refine wG ?_ | refine wH ?_ | refine wI ?_ | refine wJ ?_ | refine wK ?_ | refine wL ?_); simp (disch := omega) only [wP, wZ, undef, UInt8.reduceToNat, Nat.reduceOr, Nat.reduceAnd, Nat.reduceXor, Nat.reduceDiv, if_pos, if_neg, aStore, frz, AV.flat, ↓reduceIte, ne_eq, reduceCtorEq, Int.reduceToNat, Nat.reduceEqDiff, Nat.reduceAdd, Nat.reduceSub, Nat.reduceMul, Int.reduceAdd, Int.reduceMul, Int.reduceSub, Int.reduceLT, Int.reduceLE, Int.reduceEq, Int.reduceNe, Nat.reduceLeDiff, Nat.reduceLT, Int.reduceNeg, Nat.reducePow, Nat.reduceMod, ByteArray.size, dk, List.length_map]))
  have dk : decide ((k : Int) < (l.length : Int)) = true := decide_eq_true (by omega)
  rw [badAt_step hk'] at hz
  have hg1 := getD_ents hk'
  have t1 := hs l[k] (List.getElem_mem hk')
  have htk : l.take (k + 1) = l.take k ++ [l[k]] := by rw [List.take_add_one, List.getElem?_eq_getElem hk']; rfl
  rw [htk] at hz
  obtain ⟨e, he⟩ : ∃ e, e = l[k] := ⟨_, rfl⟩
  rw [← he] at hg1 hz t1 htk
  obtain ⟨M, hMe⟩ : ∃ M, M = l.take k := ⟨_, rfl⟩
  rw [← hMe] at hz ho htk
  have hMs : ∀ x ∈ M, entS x ∧ entI x := fun x hx => hs x (by rw [hMe] at hx; exact List.mem_of_mem_take hx)
  have hMp : ∀ x ∈ M, x.path.length ≤ 1000000 := fun x hx => (hMs x hx).1.1
  have hUp := upsAll_short hMp
  obtain ⟨U, hUe⟩ : ∃ U, U = upsAll M := ⟨_, rfl⟩
  have hb := ahd_bad ho (e := e)
  rw [← hUe] at hUp hb
  show SWp _ _ _ (mk 32 g [(4, .op 4 2 0), (14, .sl nl (some 10) (l.map entV)), (15, int l.length), (16, int k)] [(11, 0, .row false [.tup ((l.take k).map enM)]), (12, 1, .row false [.tup ((upsAll (l.take k)).map upM)]), (4, 2, .row false [.mp 11 0, .mp 12 1])])
  rw [← hMe, ← hUe]
  repeat (first | refine wA ?_ | refine wB ?_ | refine wC rfl ?_ | refine wD rfl ?_ | refine wE ?_ | refine wF (by omega) ?_ | ((first | refine wG ?_ | refine wH ?_ | refine wI ?_ | refine wJ ?_ | refine wK ?_ | refine wL ?_); simp (disch := omega) only [wP, wZ, undef, UInt8.reduceToNat, Nat.reduceOr, Nat.reduceAnd, Nat.reduceXor, Nat.reduceDiv, if_pos, if_neg, aStore, frz, AV.flat, ↓reduceIte, ne_eq, reduceCtorEq, Int.reduceToNat, Nat.reduceEqDiff, Nat.reduceAdd, Nat.reduceSub, Nat.reduceMul, Int.reduceAdd, Int.reduceMul, Int.reduceSub, Int.reduceLT, Int.reduceLE, Int.reduceEq, Int.reduceNe, Nat.reduceLeDiff, Nat.reduceLT, Int.reduceNeg, Nat.reducePow, Nat.reduceMod, ByteArray.size, dk, List.length_map, hg1, entV, entL]))
  refine goC_h [(11, 0), (12, 1)] 3000 (check_h hca M U hMs hUp e t1.1 t1.2) (by simp) (by simp) ?_ ?_ ?_
  · simp (disch := omega) only [wP, wZ, undef, UInt8.reduceToNat, Nat.reduceOr, Nat.reduceAnd, Nat.reduceXor, Nat.reduceDiv, if_pos, if_neg, aStore, frz, AV.flat, ↓reduceIte, ne_eq, reduceCtorEq, Int.reduceToNat, Nat.reduceEqDiff, Nat.reduceAdd, Nat.reduceSub, Nat.reduceMul, Int.reduceAdd, Int.reduceMul, Int.reduceSub, Int.reduceLT, Int.reduceLE, Int.reduceEq, Int.reduceNe, Nat.reduceLeDiff, Nat.reduceLT, Int.reduceNeg, Nat.reducePow, Nat.reduceMod, ByteArray.size, renL_enM, renL_upM]
    done
  · simp (disch := omega) only [wP, wZ, undef, UInt8.reduceToNat, Nat.reduceOr, Nat.reduceAnd, Nat.reduceXor, Nat.reduceDiv, if_pos, if_neg, aStore, frz, AV.flat, ↓reduceIte, ne_eq, reduceCtorEq, Int.reduceToNat, Nat.reduceEqDiff, Nat.reduceAdd, Nat.reduceSub, Nat.reduceMul, Int.reduceAdd, Int.reduceMul, Int.reduceSub, Int.reduceLT, Int.reduceLE, Int.reduceEq, Int.reduceNe, Nat.reduceLeDiff, Nat.reduceLT, Int.reduceNeg, Nat.reducePow, Nat.reduceMod, ByteArray.size, entV, entL, renL_free _ _ free_u8]
    done
  rw [hb]
  obtain ⟨z, hz2⟩ : ∃ z, z = badE M e := ⟨_, rfl⟩
  rw [← hz2] at hz ⊢
  by_cases h0 : z = 0
  case neg =>
    have d0 : decide (z = 0) = false := decide_eq_false h0
    rw [if_neg h0] at hz
    subst hz
    repeat (first | refine wA ?_ | refine wB ?_ | refine wC rfl ?_ | refine wD rfl ?_ | refine wE ?_ | refine wF (by omega) ?_ | ((first | refine wG ?_ | refine wH ?_ | refine wI ?_ | refine wJ ?_ | refine wK ?_ | refine wL ?_); simp (disch := omega) only [wP, wZ, undef, UInt8.reduceToNat, Nat.reduceOr, Nat.reduceAnd, Nat.reduceXor, Nat.reduceDiv, if_pos, if_neg, aStore, frz, AV.flat, ↓reduceIte, ne_eq, reduceCtorEq, Int.reduceToNat, Nat.reduceEqDiff, Nat.reduceAdd, Nat.reduceSub, Nat.reduceMul, Int.reduceAdd, Int.reduceMul, Int.reduceSub, Int.reduceLT, Int.reduceLE, Int.reduceEq, Int.reduceNe, Nat.reduceLeDiff, Nat.reduceLT, Int.reduceNeg, Nat.reducePow, Nat.reduceMod, ByteArray.size, d0, renL_enM, renL_upM]))
    done
  have d0 : decide (z = 0) = true := decide_eq_true h0
  rw [if_pos h0] at hz
  have hn := bad_zero (M := M) (e := e) (by rw [← hz2]; exact h0)
  repeat (first | refine wA ?_ | refine wB ?_ | refine wC rfl ?_ | refine wD rfl ?_ | refine wE ?_ | refine wF (by omega) ?_ | ((first | refine wG ?_ | refine wH ?_ | refine wI ?_ | refine wJ ?_ | refine wK ?_ | refine wL ?_); simp (disch := omega) only [wP, wZ, undef, UInt8.reduceToNat, Nat.reduceOr, Nat.reduceAnd, Nat.reduceXor, Nat.reduceDiv, if_pos, if_neg, aStore, frz, AV.flat, ↓reduceIte, ne_eq, reduceCtorEq, Int.reduceToNat, Nat.reduceEqDiff, Nat.reduceAdd, Nat.reduceSub, Nat.reduceMul, Int.reduceAdd, Int.reduceMul, Int.reduceSub, Int.reduceLT, Int.reduceLE, Int.reduceEq, Int.reduceNe, Nat.reduceLeDiff, Nat.reduceLT, Int.reduceNeg, Nat.reducePow, Nat.reduceMod, ByteArray.size, d0, renL_enM, renL_upM, entL]))
  refine goC_h [(11, 0), (12, 1)] 6000 (add_h M U hMp hUp e t1.1.1 hn) (by simp) (by simp) ?_ ?_ ?_
  iterate 2 (case _ => simp (disch := omega) only [wP, wZ, undef, UInt8.reduceToNat, Nat.reduceOr, Nat.reduceAnd, Nat.reduceXor, Nat.reduceDiv, if_pos, if_neg, aStore, frz, AV.flat, ↓reduceIte, ne_eq, reduceCtorEq, Int.reduceToNat, Nat.reduceEqDiff, Nat.reduceAdd, Nat.reduceSub, Nat.reduceMul, Int.reduceAdd, Int.reduceMul, Int.reduceSub, Int.reduceLT, Int.reduceLE, Int.reduceEq, Int.reduceNe, Nat.reduceLeDiff, Nat.reduceLT, Int.reduceNeg, Nat.reducePow, Nat.reduceMod, ByteArray.size, renL_enM, renL_upM, entV, entL, renL_free _ _ free_u8])
  repeat (first | refine wA ?_ | refine wB ?_ | refine wC rfl ?_ | refine wD rfl ?_ | refine wE ?_ | refine wF (by omega) ?_ | ((first | refine wG ?_ | refine wH ?_ | refine wI ?_ | refine wJ ?_ | refine wK ?_ | refine wL ?_); simp (disch := omega) only [wP, wZ, undef, UInt8.reduceToNat, Nat.reduceOr, Nat.reduceAnd, Nat.reduceXor, Nat.reduceDiv, if_pos, if_neg, aStore, frz, AV.flat, ↓reduceIte, ne_eq, reduceCtorEq, Int.reduceToNat, Nat.reduceEqDiff, Nat.reduceAdd, Nat.reduceSub, Nat.reduceMul, Int.reduceAdd, Int.reduceMul, Int.reduceSub, Int.reduceLT, Int.reduceLE, Int.reduceEq, Int.reduceNe, Nat.reduceLeDiff, Nat.reduceLT, Int.reduceNeg, Nat.reducePow, Nat.reduceMod, ByteArray.size, renL_enM, renL_upM]))
  have hU3 : upsAll (M ++ [e]) = addU U (upsN e.path e.path.length) := by rw [upsAll_app, hUe]
  have hre : ∀ ρ, ren ρ (enM e) = enM e := fun ρ => by
    have := renL_enM (ρ := ρ) (M := [e])
    simp only [List.map_cons, List.map_nil, ren.renL, List.cons.injEq, and_true] at this
    exact this
  refine At.of (k + 1, g + KU + 1000) ⟨by simp only; omega, by simp only; rw [htk]; exact hz, by simp only; rw [htk]; exact oneEach_app ho hn⟩ (by simp only; omega) rfl rfl ?_ ?_ ?_
  · simp only
    omega
  iterate 2 (case _ => simp (disch := omega) only [wP, wZ, undef, UInt8.reduceToNat, Nat.reduceOr, Nat.reduceAnd, Nat.reduceXor, Nat.reduceDiv, if_pos, if_neg, aStore, frz, AV.flat, ↓reduceIte, ne_eq, reduceCtorEq, Int.reduceToNat, Nat.reduceEqDiff, Nat.reduceAdd, Nat.reduceSub, Nat.reduceMul, Int.reduceAdd, Int.reduceMul, Int.reduceSub, Int.reduceLT, Int.reduceLE, Int.reduceEq, Int.reduceNe, Nat.reduceLeDiff, Nat.reduceLT, Int.reduceNeg, Nat.reducePow, Nat.reduceMod, ByteArray.size, hU3, htk, hre])
end Go.Proofs.YtbmmdkbinlnogaaDoor.Aw
namespace Go.Proofs.YtbmmdkbinlnogaaDoor.Aw
open Go
set_option linter.unusedSimpArgs false
set_option linter.unusedVariables false
def canP (l : List Ent) : List Ent := (regL (sortE l) l.length).1
theorem shE_perm {l m : List Ent} (h : m.Perm l) (hs : shE l) : shE m := fun e he => hs e (h.subset he)
theorem canP_len {l : List Ent} : (canP l).length = l.length := by rw [canP, regL_len, sortE_length]
theorem badAt_ok : ∀ (r a : List Ent) (i : Nat), (badAt a r i).2 = 0 ↔ ∀ k (h : k < r.length), badE (a ++ r.take k) r[k] = 0
  | [], a, i => by simp [badAt]
  | e :: r, a, i => by
    rw [badAt]
    by_cases h : badE a e = 0
    · rw [if_pos h, badAt_ok r (a ++ [e]) (i + 1)]
      constructor
      · intro H k hk
        cases k with
        | zero => simpa using h
        | succ k => simpa using H k (by simpa using hk)
      · intro H k hk
        have := H (k + 1) (by simpa using hk)
        simp only [List.take_succ_cons, List.getElem_cons_succ] at this
        simpa using this
    · rw [if_neg h]
      constructor
      · intro H
        exact absurd H h
      · intro H
        have := H 0 (by simp)
        simp only [List.take_zero, List.append_nil, List.getElem_cons_zero] at this
        exact absurd this h
theorem chkAll_ok {l : List Ent} : (chkAll l).2 = 0 ↔ l.length ≤ 4096 ∧ ∀ k (h : k < l.length), badE (l.take k) l[k] = 0 := by
  rw [chkAll]
  by_cases h : 4096 < l.length
  · rw [if_pos h]
    constructor
    · intro H; cases H
    · rintro ⟨H, -⟩; omega
  · rw [if_neg h, badAt_ok]
    simp only [List.nil_append]
    exact ⟨fun H => ⟨by omega, H⟩, fun H => H.2⟩
theorem findE_none {p : List UInt8} : ∀ {M : List Ent}, findE p M = none → ∀ e ∈ M, p ≠ e.path
  | x :: M, h, e, he => by
    rw [findE] at h
    by_cases c : p = x.path
    · rw [if_pos c] at h; cases h
    · rw [if_neg c] at h
      rcases List.mem_cons.1 he with rfl | he
      · exact c
      · exact findE_none h e he
theorem ok_nodup {l : List Ent} (h : (chkAll l).2 = 0) : (l.map (·.path)).Nodup := by
  obtain ⟨-, h⟩ := chkAll_ok.1 h
  rw [List.Nodup, List.pairwise_iff_getElem]
  intro i j hi hj hij
  simp only [List.length_map] at hi hj
  simp only [List.getElem_map]
  have := findE_none (bad_zero (h j hj)) l[i] (by rw [List.mem_take_iff_getElem]; exact ⟨i, by omega, rfl⟩)
  exact fun e => this e.symm
def canV (nl : Bool) (l : List Ent) : AV := if (chkAll l).2 = 0 then .tup [.sl nl (some 10) ((canP l).map entV), int 0] else .tup [.sc (.slice none 0 0), int (chkAll l).2]
theorem entS_sh {l : List Ent} (hs : ∀ e ∈ l, entS e ∧ entI e) : shE l := fun e he => ⟨(hs e he).1.1, (hs e he).1.2.2.2.1⟩
set_option maxRecDepth 100000 in
theorem Copy_n [Tabs Tryd.prog] : Con Tryd.prog n_entry_Copy [.sl true (some 10) []] (.sc (.slice none 0 0)) := by
  refine Con.of' mix Tryd.func23 rfl Tryd.ntmps23 e_entry_Copy r_entry_Copy (by simp) rfl rfl ?_
  unfold s_entry_Copy
  repeat (first | refine wA ?_ | refine wB ?_ | refine wC rfl ?_ | refine wD rfl ?_ | refine wE ?_ | refine wF (by omega) ?_ | ((first | refine wG ?_ | refine wH ?_ | refine wI ?_ | refine wJ ?_ | refine wK ?_ | refine wL ?_); simp (disch := omega) only [wP, wZ, undef, UInt8.reduceToNat, Nat.reduceOr, Nat.reduceAnd, Nat.reduceXor, Nat.reduceDiv, if_pos, if_neg, aStore, frz, AV.flat, ↓reduceIte, ne_eq, reduceCtorEq, Int.reduceToNat, Nat.reduceEqDiff, Nat.reduceAdd, Nat.reduceSub, Nat.reduceMul, Int.reduceAdd, Int.reduceMul, Int.reduceSub, Int.reduceLT, Int.reduceLE, Int.reduceEq, Int.reduceNe, Nat.reduceLeDiff, Nat.reduceLT, Int.reduceNeg, Nat.reducePow, Nat.reduceMod, ByteArray.size]))
  refine goC_p _ (.inl ⟨rfl, slices_CloneE_n⟩) ?_
  repeat (first | refine wA ?_ | refine wB ?_ | refine wC rfl ?_ | refine wD rfl ?_ | refine wE ?_ | refine wF (by omega) ?_ | ((first | refine wG ?_ | refine wH ?_ | refine wI ?_ | refine wJ ?_ | refine wK ?_ | refine wL ?_); simp (disch := omega) only [wP, wZ, undef, UInt8.reduceToNat, Nat.reduceOr, Nat.reduceAnd, Nat.reduceXor, Nat.reduceDiv, if_pos, if_neg, aStore, frz, AV.flat, ↓reduceIte, ne_eq, reduceCtorEq, Int.reduceToNat, Nat.reduceEqDiff, Nat.reduceAdd, Nat.reduceSub, Nat.reduceMul, Int.reduceAdd, Int.reduceMul, Int.reduceSub, Int.reduceLT, Int.reduceLE, Int.reduceEq, Int.reduceNe, Nat.reduceLeDiff, Nat.reduceLT, Int.reduceNeg, Nat.reducePow, Nat.reduceMod, ByteArray.size]))
  refine SWp.unroll ?_
  repeat (first | refine wA ?_ | refine wB ?_ | refine wC rfl ?_ | refine wD rfl ?_ | refine wE ?_ | refine wF (by omega) ?_ | ((first | refine wG ?_ | refine wH ?_ | refine wI ?_ | refine wJ ?_ | refine wK ?_ | refine wL ?_); simp (disch := omega) only [wP, wZ, undef, UInt8.reduceToNat, Nat.reduceOr, Nat.reduceAnd, Nat.reduceXor, Nat.reduceDiv, if_pos, if_neg, aStore, frz, AV.flat, ↓reduceIte, ne_eq, reduceCtorEq, Int.reduceToNat, Nat.reduceEqDiff, Nat.reduceAdd, Nat.reduceSub, Nat.reduceMul, Int.reduceAdd, Int.reduceMul, Int.reduceSub, Int.reduceLT, Int.reduceLE, Int.reduceEq, Int.reduceNe, Nat.reduceLeDiff, Nat.reduceLT, Int.reduceNeg, Nat.reducePow, Nat.reduceMod, ByteArray.size]))
theorem chunks_enC : ∀ {l : List Ent}, chunks (some 10) l.length (enC l) = l.map entV
  | [] => rfl
  | e :: l => by
    have ih := chunks_enC (l := l)
    rw [List.length_cons, enC_cons, chunks, List.map_cons, show (10 : Nat) = (entL e).length from rfl, List.take_left, List.drop_left, show (entL e).length = (10 : Nat) from rfl, ih]
    rfl
set_option maxHeartbeats 1000000 in
set_option maxRecDepth 100000 in
theorem Canon_f [Tabs Tryd.prog] (l : List Ent) (hl : l.length ≤ 1000000) (hs : ∀ e ∈ l, entS e ∧ entI e) (hn : nlOk l) : Con Tryd.prog n_entry_Canon [.sl false (some 10) (l.map entV)] (canV false l) := by
  refine Con.of' mix Tryd.func19 rfl Tryd.ntmps19 e_entry_Canon r_entry_Canon (by simp) (by simp only [AV.free, AV.free.freeL, free_ents, Bool.and_self]) (by unfold canV; split <;> simp only [AV.free, AV.free.freeL, free_ents, int, Bool.and_self]) ?_
  unfold s_entry_Canon
  obtain ⟨Z, hZ⟩ : ∃ Z, Z = canV false l := ⟨_, rfl⟩
  rw [← hZ]
  rw [canV] at hZ
  repeat (first | refine wA ?_ | refine wB ?_ | refine wC rfl ?_ | refine wD rfl ?_ | refine wE ?_ | refine wF (by omega) ?_ | ((first | refine wG ?_ | refine wH ?_ | refine wI ?_ | refine wJ ?_ | refine wK ?_ | refine wL ?_); simp (disch := omega) only [wP, wZ, undef, UInt8.reduceToNat, Nat.reduceOr, Nat.reduceAnd, Nat.reduceXor, Nat.reduceDiv, if_pos, if_neg, aStore, frz, AV.flat, ↓reduceIte, ne_eq, reduceCtorEq, Int.reduceToNat, Nat.reduceEqDiff, Nat.reduceAdd, Nat.reduceSub, Nat.reduceMul, Int.reduceAdd, Int.reduceMul, Int.reduceSub, Int.reduceLT, Int.reduceLE, Int.reduceEq, Int.reduceNe, Nat.reduceLeDiff, Nat.reduceLT, Int.reduceNeg, Nat.reducePow, Nat.reduceMod, ByteArray.size]))
  refine goC_p _ (.inl ⟨by simp only [AV.free, AV.free.freeL, free_ents, Bool.and_self], CheckAll_c caOk false l hl hs⟩) ?_
  by_cases h0 : (chkAll l).2 = 0
  case neg =>
    have d0 : decide ((chkAll l).2 = 0) = false := decide_eq_false h0
    rw [if_neg h0] at hZ
    obtain ⟨C, hC⟩ : ∃ C, C = chkAll l := ⟨_, rfl⟩
    rw [← hC] at hZ d0 ⊢
    subst hZ
    repeat (first | refine wA ?_ | refine wB ?_ | refine wC rfl ?_ | refine wD rfl ?_ | refine wE ?_ | refine wF (by omega) ?_ | ((first | refine wG ?_ | refine wH ?_ | refine wI ?_ | refine wJ ?_ | refine wK ?_ | refine wL ?_); simp (disch := omega) only [wP, wZ, undef, UInt8.reduceToNat, Nat.reduceOr, Nat.reduceAnd, Nat.reduceXor, Nat.reduceDiv, if_pos, if_neg, aStore, frz, AV.flat, ↓reduceIte, ne_eq, reduceCtorEq, Int.reduceToNat, Nat.reduceEqDiff, Nat.reduceAdd, Nat.reduceSub, Nat.reduceMul, Int.reduceAdd, Int.reduceMul, Int.reduceSub, Int.reduceLT, Int.reduceLE, Int.reduceEq, Int.reduceNe, Nat.reduceLeDiff, Nat.reduceLT, Int.reduceNeg, Nat.reducePow, Nat.reduceMod, ByteArray.size, d0, Bool.not_false]))
    done
  have d0 : decide ((chkAll l).2 = 0) = true := decide_eq_true h0
  rw [if_pos h0] at hZ
  have hnd := ok_nodup h0
  obtain ⟨C, hC⟩ : ∃ C, C = chkAll l := ⟨_, rfl⟩
  rw [← hC] at d0 ⊢
  repeat (first | refine wA ?_ | refine wB ?_ | refine wC rfl ?_ | refine wD rfl ?_ | refine wE ?_ | refine wF (by omega) ?_ | ((first | refine wG ?_ | refine wH ?_ | refine wI ?_ | refine wJ ?_ | refine wK ?_ | refine wL ?_); simp (disch := omega) only [wP, wZ, undef, UInt8.reduceToNat, Nat.reduceOr, Nat.reduceAnd, Nat.reduceXor, Nat.reduceDiv, if_pos, if_neg, aStore, frz, AV.flat, ↓reduceIte, ne_eq, reduceCtorEq, Int.reduceToNat, Nat.reduceEqDiff, Nat.reduceAdd, Nat.reduceSub, Nat.reduceMul, Int.reduceAdd, Int.reduceMul, Int.reduceSub, Int.reduceLT, Int.reduceLE, Int.reduceEq, Int.reduceNe, Nat.reduceLeDiff, Nat.reduceLT, Int.reduceNeg, Nat.reducePow, Nat.reduceMod, ByteArray.size, d0, Bool.not_true]))
  refine goC_h [] 100 (Copy_h l hl hn (fun e he => (hs e he).1.2.2.2.2)) (by simp) (by simp) (by simp [handOk]) (by simp only [ren.renL, ren, renL_ents]) ?_
  repeat (first | refine wA ?_ | refine wB ?_ | refine wC rfl ?_ | refine wD rfl ?_ | refine wE ?_ | refine wF (by omega) ?_ | ((first | refine wG ?_ | refine wH ?_ | refine wI ?_ | refine wJ ?_ | refine wK ?_ | refine wL ?_); simp (disch := omega) only [wP, wZ, undef, UInt8.reduceToNat, Nat.reduceOr, Nat.reduceAnd, Nat.reduceXor, Nat.reduceDiv, if_pos, if_neg, aStore, frz, AV.flat, ↓reduceIte, ne_eq, reduceCtorEq, Int.reduceToNat, Nat.reduceEqDiff, Nat.reduceAdd, Nat.reduceSub, Nat.reduceMul, Int.reduceAdd, Int.reduceMul, Int.reduceSub, Int.reduceLT, Int.reduceLE, Int.reduceEq, Int.reduceNe, Nat.reduceLeDiff, Nat.reduceLT, Int.reduceNeg, Nat.reducePow, Nat.reduceMod, ByteArray.size, renL_enC]))
  have h2 : HCon Tryd.prog n_slices_SortFuncapi_Entryapi_Entry [.own 1000 0 (some 10) 0 l.length, .sc (.func (.func n_entry_Canon_1) #[] #[])] [.row false (enC l)] (.tup []) [(1000, 0, .row false (enC (sortE l)))] 1 := SortFunc_h false l (by simp) hnd hl
  refine goC_h [(111, 3)] 300 h2 (by simp) (by simp) (by simp (disch := omega) only [wP, wZ, undef, UInt8.reduceToNat, Nat.reduceOr, Nat.reduceAnd, Nat.reduceXor, Nat.reduceDiv, if_pos, if_neg, aStore, frz, AV.flat, ↓reduceIte, ne_eq, reduceCtorEq, Int.reduceToNat, Nat.reduceEqDiff, Nat.reduceAdd, Nat.reduceSub, Nat.reduceMul, Int.reduceAdd, Int.reduceMul, Int.reduceSub, Int.reduceLT, Int.reduceLE, Int.reduceEq, Int.reduceNe, Nat.reduceLeDiff, Nat.reduceLT, Int.reduceNeg, Nat.reducePow, Nat.reduceMod, ByteArray.size, handOk, AO.ren, renL_enC]) (by simp (disch := omega) only [wP, wZ, undef, UInt8.reduceToNat, Nat.reduceOr, Nat.reduceAnd, Nat.reduceXor, Nat.reduceDiv, if_pos, if_neg, aStore, frz, AV.flat, ↓reduceIte, ne_eq, reduceCtorEq, Int.reduceToNat, Nat.reduceEqDiff, Nat.reduceAdd, Nat.reduceSub, Nat.reduceMul, Int.reduceAdd, Int.reduceMul, Int.reduceSub, Int.reduceLT, Int.reduceLE, Int.reduceEq, Int.reduceNe, Nat.reduceLeDiff, Nat.reduceLT, Int.reduceNeg, Nat.reducePow, Nat.reduceMod, ByteArray.size, ren.renL, ren, rho, handed]) ?_
  repeat (first | refine wA ?_ | refine wB ?_ | refine wC rfl ?_ | refine wD rfl ?_ | refine wE ?_ | refine wF (by omega) ?_ | ((first | refine wG ?_ | refine wH ?_ | refine wI ?_ | refine wJ ?_ | refine wK ?_ | refine wL ?_); simp (disch := omega) only [wP, wZ, undef, UInt8.reduceToNat, Nat.reduceOr, Nat.reduceAnd, Nat.reduceXor, Nat.reduceDiv, if_pos, if_neg, aStore, frz, AV.flat, ↓reduceIte, ne_eq, reduceCtorEq, Int.reduceToNat, Nat.reduceEqDiff, Nat.reduceAdd, Nat.reduceSub, Nat.reduceMul, Int.reduceAdd, Int.reduceMul, Int.reduceSub, Int.reduceLT, Int.reduceLE, Int.reduceEq, Int.reduceNe, Nat.reduceLeDiff, Nat.reduceLT, Int.reduceNeg, Nat.reducePow, Nat.reduceMod, ByteArray.size, renL_enC]))
  have h3 := regroup_h false (sortE l) (by rw [sortE_length]; exact hl) (shE_perm (sortE_perm l) (entS_sh hs))
  rw [sortE_length, ← canP] at h3
  refine goC_h [(111, 3)] 600 h3 (by simp) (by simp) (by simp (disch := omega) only [wP, wZ, undef, UInt8.reduceToNat, Nat.reduceOr, Nat.reduceAnd, Nat.reduceXor, Nat.reduceDiv, if_pos, if_neg, aStore, frz, AV.flat, ↓reduceIte, ne_eq, reduceCtorEq, Int.reduceToNat, Nat.reduceEqDiff, Nat.reduceAdd, Nat.reduceSub, Nat.reduceMul, Int.reduceAdd, Int.reduceMul, Int.reduceSub, Int.reduceLT, Int.reduceLE, Int.reduceEq, Int.reduceNe, Nat.reduceLeDiff, Nat.reduceLT, Int.reduceNeg, Nat.reducePow, Nat.reduceMod, ByteArray.size, handOk, AO.ren, renL_enC]) (by simp (disch := omega) only [wP, wZ, undef, UInt8.reduceToNat, Nat.reduceOr, Nat.reduceAnd, Nat.reduceXor, Nat.reduceDiv, if_pos, if_neg, aStore, frz, AV.flat, ↓reduceIte, ne_eq, reduceCtorEq, Int.reduceToNat, Nat.reduceEqDiff, Nat.reduceAdd, Nat.reduceSub, Nat.reduceMul, Int.reduceAdd, Int.reduceMul, Int.reduceSub, Int.reduceLT, Int.reduceLE, Int.reduceEq, Int.reduceNe, Nat.reduceLeDiff, Nat.reduceLT, Int.reduceNeg, Nat.reducePow, Nat.reduceMod, ByteArray.size, ren.renL, ren, rho, handed]) ?_
  have hch : chunks (some 10) l.length (enC (canP l)) = (canP l).map entV := by rw [← canP_len, chunks_enC]
  subst hZ
  repeat (first | refine wA ?_ | refine wB ?_ | refine wC rfl ?_ | refine wD rfl ?_ | refine wE ?_ | refine wF (by omega) ?_ | ((first | refine wG ?_ | refine wH ?_ | refine wI ?_ | refine wJ ?_ | refine wK ?_ | refine wL ?_); simp (disch := omega) only [wP, wZ, undef, UInt8.reduceToNat, Nat.reduceOr, Nat.reduceAnd, Nat.reduceXor, Nat.reduceDiv, if_pos, if_neg, aStore, frz, AV.flat, ↓reduceIte, ne_eq, reduceCtorEq, Int.reduceToNat, Nat.reduceEqDiff, Nat.reduceAdd, Nat.reduceSub, Nat.reduceMul, Int.reduceAdd, Int.reduceMul, Int.reduceSub, Int.reduceLT, Int.reduceLE, Int.reduceEq, Int.reduceNe, Nat.reduceLeDiff, Nat.reduceLT, Int.reduceNeg, Nat.reducePow, Nat.reduceMod, ByteArray.size, renL_enC, length_enC, canP_len, hch]))
end Go.Proofs.YtbmmdkbinlnogaaDoor.Aw
