/- Parts of the proofs of Ec. -/
import Derived.Test.YtbmmdkbinlnogaaDoorQEcBK
import Derived.Test.YtbmmdkbinlnogaaDoorQEcAZ
namespace Go.Proofs.YtbmmdkbinlnogaaDoor.Aw
open Go
set_option linter.unusedSimpArgs false
set_option linter.unusedVariables false
theorem insE_at {x : Ent} : ∀ {O : List Ent} {k : Nat}, k ≤ O.length → (∀ j (h : j < O.length), j < k → ltB O[j].path x.path = true) → (∀ h : k < O.length, ltB O[k].path x.path = false) → insE x O = O.take k ++ x :: O.drop k
  | [], 0, _, _, _ => rfl
  | y :: O, 0, _, _, h => by
    have := h (by simp)
    simp only [List.getElem_cons_zero] at this
    rw [insE, if_neg (by rw [this]; decide)]
    rfl
  | y :: O, k + 1, hk, h1, h2 => by
    have h0 := h1 0 (by simp) (by omega)
    simp only [List.getElem_cons_zero] at h0
    rw [insE, if_pos h0, insE_at (k := k) (by simpa using hk) (fun j hj hjk => by have := h1 (j + 1) (by simpa using hj) (by omega); simpa using this) (fun hk => by have := h2 (by simpa using hk); simpa using this)]
    rfl
theorem sortE_take {l : List Ent} {k : Nat} (hk : k < l.length) : sortE (l.take (k + 1)) = insE l[k] (sortE (l.take k)) := by
  rw [sortE, List.take_add_one, List.getElem?_eq_getElem hk, List.foldl_append]
  rfl
theorem chunks_take : ∀ {O : List Ent} {k : Nat}, k ≤ O.length → chunks (some 10) k (enC O) = (O.take k).map entV
  | _, 0, _ => rfl
  | e :: O, k + 1, h => by
    have ih := chunks_take (O := O) (k := k) (by simpa using h)
    rw [enC_cons, chunks, List.take_succ_cons, List.map_cons, show (10 : Nat) = (entL e).length from rfl, List.take_left, List.drop_left, show (entL e).length = (10 : Nat) from rfl, ih]
    rfl
theorem chunks_drop {O : List Ent} {k : Nat} : chunks (some 10) (O.length - k) ((enC O).drop (k * 10)) = (O.drop k).map entV := by
  have := chunks_enC (l := O.drop k)
  rw [List.length_drop, ← drop_enC] at this
  exact this
def rlk (L : List Ent) (f : Nat) (old p : List UInt8) : Nat → List Ent
  | 0 => L
  | k + 1 => if k ≠ f ∧ ((rlk L f old p k).getD k default).kind = 4 ∧ ((rlk L f old p k).getD k default).link = old then (rlk L f old p k).set k { (rlk L f old p k).getD k default with link := p } else rlk L f old p k
theorem rlk_len {L : List Ent} {f : Nat} {old p : List UInt8} : ∀ k, (rlk L f old p k).length = L.length
  | 0 => rfl
  | k + 1 => by
    rw [rlk]
    split
    · rw [List.length_set, rlk_len k]
    · exact rlk_len k
theorem getD_set_path {L : List Ent} {i j : Nat} {e : Ent} (he : e.path = (L.getD i default).path) : ((L.set i e).getD j default).path = (L.getD j default).path := by
  by_cases h : i = j
  · subst h
    by_cases hl : i < L.length
    · have h1 : (L.set i e).getD i default = e := by simp [List.getD, hl]
      rw [h1, he]
    · rw [List.set_eq_of_length_le (by omega)]
  · simp [List.getD, List.getElem?_set_ne h]
theorem rlk_path {L : List Ent} {f : Nat} {old p : List UInt8} {i : Nat} : ∀ k, ((rlk L f old p k).getD i default).path = (L.getD i default).path
  | 0 => rfl
  | k + 1 => by
    rw [rlk]
    split
    · rw [getD_set_path (by rfl), rlk_path k]
    · exact rlk_path k
def docS (L : List Ent) (i : Nat) : List Ent :=
  if (L.getD i default).kind = 4 then
    if posOf (L.getD i default).link L < i then L
    else if (L.getD (posOf (L.getD i default).link L).toNat default).kind = 1 then
      rlk ((L.set i (asReg (L.getD i default) (L.getD (posOf (L.getD i default).link L).toNat default))).set (posOf (L.getD i default).link L).toNat (asHard (L.getD (posOf (L.getD i default).link L).toNat default) (L.getD i default).path)) (posOf (L.getD i default).link L).toNat (L.getD i default).link (L.getD i default).path L.length
    else L
  else L
def docL (l : List Ent) : Nat → List Ent
  | 0 => l
  | k + 1 => docS (docL l k) k
theorem docS_len {L : List Ent} {i : Nat} : (docS L i).length = L.length := by
  unfold docS
  split
  · split
    · rfl
    · split
      · rw [rlk_len, List.length_set, List.length_set]
      · rfl
  · rfl
theorem docL_len {l : List Ent} : ∀ k, (docL l k).length = l.length
  | 0 => rfl
  | k + 1 => by rw [docL, docS_len, docL_len k]
theorem set_sh {L : List Ent} {i : Nat} {e : Ent} (hL : shE L) (he : e.path.length ≤ 1000000 ∧ e.link.length ≤ 1000000) : shE (L.set i e) := by
  intro x h
  rcases List.mem_or_eq_of_mem_set h with h | rfl
  · exact hL x h
  · exact he
theorem rlk_sh {L : List Ent} {f : Nat} {old p : List UInt8} (hL : shE L) (hp : p.length ≤ 1000000) : ∀ k, k ≤ L.length → shE (rlk L f old p k)
  | 0, _ => hL
  | k + 1, hk => by
    have ih := rlk_sh (f := f) (old := old) hL hp k (by omega)
    rw [rlk]
    split
    · exact set_sh ih ⟨(ih _ (getD_mem (by rw [rlk_len]; omega))).1, hp⟩
    · exact ih
theorem docS_sh {L : List Ent} {i : Nat} (hL : shE L) (hi : i < L.length) : shE (docS L i) := by
  unfold docS
  have he := hL _ (getD_mem hi)
  split
  · split
    · exact hL
    · rename_i h1
      have hf : (posOf (L.getD i default).link L).toNat < L.length := by
        have := posOf_lt (p := (L.getD i default).link) (l := L)
        omega
      have hf' := hL _ (getD_mem hf)
      split
      · exact rlk_sh (set_sh (set_sh hL (e := asReg _ _) ⟨he.1, Nat.zero_le _⟩) (e := asHard _ _) ⟨hf'.1, he.1⟩) he.1 L.length (by simp)
      · exact hL
  · exact hL
theorem docL_sh {l : List Ent} (h : shE l) : ∀ k, k ≤ l.length → shE (docL l k)
  | 0, _ => h
  | k + 1, hk => docS_sh (docL_sh h k (by omega)) (by rw [docL_len]; omega)
def canD (l : List Ent) : List Ent := docL (sortE l) l.length
def canW (l : List Ent) : AV := if (chkAll l).2 = 0 then .tup [.sl (nl0 l.length) (some 10) ((canD l).map entV), int 0] else .tup [.sc (.slice none 0 0), int (chkAll l).2]
set_option maxHeartbeats 4000000 in
set_option maxRecDepth 100000 in
theorem ref_Canon_c [Tabs Tryd.prog] (nl : Bool) (l : List Ent) (hl : l.length ≤ 100000) (hs : ∀ e ∈ l, entS e) : Con Tryd.prog n_drayageref07_Canon [.sl nl (some 10) (l.map entV)] (canW l) := by
  refine Con.of' mix Tryd.func20 rfl Tryd.ntmps20 e_drayageref07_Canon r_drayageref07_Canon (by simp) (by simp only [AV.free, AV.free.freeL, free_ents, Bool.and_self]) (by unfold canW; split <;> simp only [AV.free, AV.free.freeL, free_ents, int, Bool.and_self]) ?_
  unfold s_drayageref07_Canon
  obtain ⟨Z, hZ⟩ : ∃ Z, Z = canW l := ⟨_, rfl⟩
  rw [← hZ]
  rw [canW] at hZ
  repeat (first | refine wA ?_ | refine wB ?_ | refine wC rfl ?_ | refine wD rfl ?_ | refine wE ?_ | refine wF (by omega) ?_ | ((first | refine wG ?_ | refine wH ?_ | refine wI ?_ | refine wJ ?_ | refine wK ?_ | refine wL ?_); simp (disch := omega) only [wP, wZ, undef, UInt8.reduceToNat, Nat.reduceOr, Nat.reduceAnd, Nat.reduceXor, Nat.reduceDiv, if_pos, if_neg, aStore, frz, AV.flat, ↓reduceIte, ne_eq, reduceCtorEq, Int.reduceToNat, Nat.reduceEqDiff, Nat.reduceAdd, Nat.reduceSub, Nat.reduceMul, Int.reduceAdd, Int.reduceMul, Int.reduceSub, Int.reduceLT, Int.reduceLE, Int.reduceEq, Int.reduceNe, Nat.reduceLeDiff, Nat.reduceLT, Int.reduceNeg, Nat.reducePow, Nat.reduceMod, ByteArray.size]))
  refine goC_p _ (.inl ⟨by simp only [AV.free, AV.free.freeL, free_ents, Bool.and_self], ref_CheckAll_c nl l (by omega) hs⟩) ?_
  by_cases h0 : (chkAll l).2 = 0
  case neg =>
    have d0 : decide ((chkAll l).2 = 0) = false := decide_eq_false h0
    rw [if_neg h0] at hZ
    obtain ⟨C, hC⟩ : ∃ C, C = chkAll l := ⟨_, rfl⟩
    rw [← hC] at hZ d0 ⊢
    subst hZ
    repeat (first | refine wA ?_ | refine wB ?_ | refine wC rfl ?_ | refine wD rfl ?_ | refine wE ?_ | refine wF (by omega) ?_ | ((first | refine wG ?_ | refine wH ?_ | refine wI ?_ | refine wJ ?_ | refine wK ?_ | refine wL ?_); simp (disch := omega) only [wP, wZ, undef, UInt8.reduceToNat, Nat.reduceOr, Nat.reduceAnd, Nat.reduceXor, Nat.reduceDiv, if_pos, if_neg, aStore, frz, AV.flat, ↓reduceIte, ne_eq, reduceCtorEq, Int.reduceToNat, Nat.reduceEqDiff, Nat.reduceAdd, Nat.reduceSub, Nat.reduceMul, Int.reduceAdd, Int.reduceMul, Int.reduceSub, Int.reduceLT, Int.reduceLE, Int.reduceEq, Int.reduceNe, Nat.reduceLeDiff, Nat.reduceLT, Int.reduceNeg, Nat.reducePow, Nat.reduceMod, ByteArray.size, d0, Bool.not_false]))
    done
  have d0 : decide ((chkAll l).2 = 0) = true := decide_eq_true h0
  rw [if_pos h0] at hZ
  obtain ⟨C, hC⟩ : ∃ C, C = chkAll l := ⟨_, rfl⟩
  rw [← hC] at d0 ⊢
  repeat (first | refine wA ?_ | refine wB ?_ | refine wC rfl ?_ | refine wD rfl ?_ | refine wE ?_ | refine wF (by omega) ?_ | ((first | refine wG ?_ | refine wH ?_ | refine wI ?_ | refine wJ ?_ | refine wK ?_ | refine wL ?_); simp (disch := omega) only [wP, wZ, undef, UInt8.reduceToNat, Nat.reduceOr, Nat.reduceAnd, Nat.reduceXor, Nat.reduceDiv, if_pos, if_neg, aStore, frz, AV.flat, ↓reduceIte, ne_eq, reduceCtorEq, Int.reduceToNat, Nat.reduceEqDiff, Nat.reduceAdd, Nat.reduceSub, Nat.reduceMul, Int.reduceAdd, Int.reduceMul, Int.reduceSub, Int.reduceLT, Int.reduceLE, Int.reduceEq, Int.reduceNe, Nat.reduceLeDiff, Nat.reduceLT, Int.reduceNeg, Nat.reducePow, Nat.reduceMod, ByteArray.size, d0, Bool.not_true]))
  refine SWp.le (st' := mk 169 1 [(0, .sl nl (some 10) (l.map entV)), (6, .sc (.slice none 0 0)), (7, int 0)] []) (le_mk rfl ?_ ?_ ?_) ?_
  · exact Nat.zero_le _
  iterate 2 (case _ => simp (disch := omega) only [wP, wZ, undef, UInt8.reduceToNat, Nat.reduceOr, Nat.reduceAnd, Nat.reduceXor, Nat.reduceDiv, if_pos, if_neg, aStore, frz, AV.flat, ↓reduceIte, ne_eq, reduceCtorEq, Int.reduceToNat, Nat.reduceEqDiff, Nat.reduceAdd, Nat.reduceSub, Nat.reduceMul, Int.reduceAdd, Int.reduceMul, Int.reduceSub, Int.reduceLT, Int.reduceLE, Int.reduceEq, Int.reduceNe, Nat.reduceLeDiff, Nat.reduceLT, Int.reduceNeg, Nat.reducePow, Nat.reduceMod, ByteArray.size])
  refine SWp.adopt 6 (some 10) (by simp (disch := omega) only [wP, wZ, undef, UInt8.reduceToNat, Nat.reduceOr, Nat.reduceAnd, Nat.reduceXor, Nat.reduceDiv, if_pos, if_neg, aStore, frz, AV.flat, ↓reduceIte, ne_eq, reduceCtorEq, Int.reduceToNat, Nat.reduceEqDiff, Nat.reduceAdd, Nat.reduceSub, Nat.reduceMul, Int.reduceAdd, Int.reduceMul, Int.reduceSub, Int.reduceLT, Int.reduceLE, Int.reduceEq, Int.reduceNe, Nat.reduceLeDiff, Nat.reduceLT, Int.reduceNeg, Nat.reducePow, Nat.reduceMod, ByteArray.size]) ?_
  refine SWp.swap 6 51 (by simp (disch := omega) only [wP, wZ, undef, UInt8.reduceToNat, Nat.reduceOr, Nat.reduceAnd, Nat.reduceXor, Nat.reduceDiv, if_pos, if_neg, aStore, frz, AV.flat, ↓reduceIte, ne_eq, reduceCtorEq, Int.reduceToNat, Nat.reduceEqDiff, Nat.reduceAdd, Nat.reduceSub, Nat.reduceMul, Int.reduceAdd, Int.reduceMul, Int.reduceSub, Int.reduceLT, Int.reduceLE, Int.reduceEq, Int.reduceNe, Nat.reduceLeDiff, Nat.reduceLT, Int.reduceNeg, Nat.reducePow, Nat.reduceMod, ByteArray.size, genOk]) (by simp (disch := omega) only [wP, wZ, undef, UInt8.reduceToNat, Nat.reduceOr, Nat.reduceAnd, Nat.reduceXor, Nat.reduceDiv, if_pos, if_neg, aStore, frz, AV.flat, ↓reduceIte, ne_eq, reduceCtorEq, Int.reduceToNat, Nat.reduceEqDiff, Nat.reduceAdd, Nat.reduceSub, Nat.reduceMul, Int.reduceAdd, Int.reduceMul, Int.reduceSub, Int.reduceLT, Int.reduceLE, Int.reduceEq, Int.reduceNe, Nat.reduceLeDiff, Nat.reduceLT, Int.reduceNeg, Nat.reducePow, Nat.reduceMod, ByteArray.size, genOk]) ?_
  refine SWp.loop (α := Nat × Nat × Nat) (fun x => mk 169 x.2.2 [(0, .sl nl (some 10) (l.map entV)), (6, .own 51 x.2.1 (some 10) 0 x.1), (7, int x.1)] [(51, x.2.1, .row (nl0 x.1) (enC (sortE (l.take x.1))))])
    (fun x => x.1 ≤ l.length ∧ 1 ≤ x.2.1) (fun x => l.length - x.1) (0, 1, 2) ⟨Nat.zero_le _, Nat.le_refl _⟩ (le_mk rfl ?_ ?_ ?_) ?_
  · exact Nat.le_refl _
  · simp (disch := omega) only [wP, wZ, undef, UInt8.reduceToNat, Nat.reduceOr, Nat.reduceAnd, Nat.reduceXor, Nat.reduceDiv, if_pos, if_neg, aStore, frz, AV.flat, ↓reduceIte, ne_eq, reduceCtorEq, Int.reduceToNat, Nat.reduceEqDiff, Nat.reduceAdd, Nat.reduceSub, Nat.reduceMul, Int.reduceAdd, Int.reduceMul, Int.reduceSub, Int.reduceLT, Int.reduceLE, Int.reduceEq, Int.reduceNe, Nat.reduceLeDiff, Nat.reduceLT, Int.reduceNeg, Nat.reducePow, Nat.reduceMod, ByteArray.size, sw, swr_eq, renL_ents]
  · simp (disch := omega) only [wP, wZ, undef, UInt8.reduceToNat, Nat.reduceOr, Nat.reduceAnd, Nat.reduceXor, Nat.reduceDiv, if_pos, if_neg, aStore, frz, AV.flat, ↓reduceIte, ne_eq, reduceCtorEq, Int.reduceToNat, Nat.reduceEqDiff, Nat.reduceAdd, Nat.reduceSub, Nat.reduceMul, Int.reduceAdd, Int.reduceMul, Int.reduceSub, Int.reduceLT, Int.reduceLE, Int.reduceEq, Int.reduceNe, Nat.reduceLeDiff, Nat.reduceLT, Int.reduceNeg, Nat.reducePow, Nat.reduceMod, ByteArray.size, sw, swr_eq, swH, nl0_zero, List.take_zero, show enC (sortE []) = [] from rfl]
  rintro ⟨i, g, c⟩ ⟨hi, hg⟩ -
  simp only at hi hg
  have hol : (sortE (l.take i)).length = i := by rw [sortE_length, List.length_take]; omega
  by_cases hi' : i < l.length
  case pos =>
    have di : decide ((i : Int) < (l.length : Int)) = true := decide_eq_true (by omega)
    have hst := sortE_take hi'
    obtain ⟨O, hO⟩ : ∃ O, O = sortE (l.take i) := ⟨_, rfl⟩
    rw [← hO] at hol hst ⊢
    have hgi := getD_ents hi'
    refine SWp.swap 51 2009 (by simp (disch := omega) only [wP, wZ, undef, UInt8.reduceToNat, Nat.reduceOr, Nat.reduceAnd, Nat.reduceXor, Nat.reduceDiv, if_pos, if_neg, aStore, frz, AV.flat, ↓reduceIte, ne_eq, reduceCtorEq, Int.reduceToNat, Nat.reduceEqDiff, Nat.reduceAdd, Nat.reduceSub, Nat.reduceMul, Int.reduceAdd, Int.reduceMul, Int.reduceSub, Int.reduceLT, Int.reduceLE, Int.reduceEq, Int.reduceNe, Nat.reduceLeDiff, Nat.reduceLT, Int.reduceNeg, Nat.reducePow, Nat.reduceMod, ByteArray.size, genOk]; exact hg) (by simp (disch := omega) only [wP, wZ, undef, UInt8.reduceToNat, Nat.reduceOr, Nat.reduceAnd, Nat.reduceXor, Nat.reduceDiv, if_pos, if_neg, aStore, frz, AV.flat, ↓reduceIte, ne_eq, reduceCtorEq, Int.reduceToNat, Nat.reduceEqDiff, Nat.reduceAdd, Nat.reduceSub, Nat.reduceMul, Int.reduceAdd, Int.reduceMul, Int.reduceSub, Int.reduceLT, Int.reduceLE, Int.reduceEq, Int.reduceNe, Nat.reduceLeDiff, Nat.reduceLT, Int.reduceNeg, Nat.reducePow, Nat.reduceMod, ByteArray.size, genOk]) ?_
    refine SWp.le (st' := mk 169 c [(0, .sl nl (some 10) (l.map entV)), (6, .own 2009 g (some 10) 0 i), (7, int i)] [(2009, g, .row (nl0 i) (enC O))]) (le_mk rfl (Nat.le_refl _) ?_ ?_) ?_
    iterate 2 (case _ => simp (disch := omega) only [wP, wZ, undef, UInt8.reduceToNat, Nat.reduceOr, Nat.reduceAnd, Nat.reduceXor, Nat.reduceDiv, if_pos, if_neg, aStore, frz, AV.flat, ↓reduceIte, ne_eq, reduceCtorEq, Int.reduceToNat, Nat.reduceEqDiff, Nat.reduceAdd, Nat.reduceSub, Nat.reduceMul, Int.reduceAdd, Int.reduceMul, Int.reduceSub, Int.reduceLT, Int.reduceLE, Int.reduceEq, Int.reduceNe, Nat.reduceLeDiff, Nat.reduceLT, Int.reduceNeg, Nat.reducePow, Nat.reduceMod, ByteArray.size, sw, swr_eq, renL_ents, swH, renL_enC])
    repeat (first | refine wA ?_ | refine wB ?_ | refine wC rfl ?_ | refine wD rfl ?_ | refine wE ?_ | refine wF (by omega) ?_ | ((first | refine wG ?_ | refine wH ?_ | refine wI ?_ | refine wJ ?_ | refine wK ?_ | refine wL ?_); simp (disch := omega) only [wP, wZ, undef, UInt8.reduceToNat, Nat.reduceOr, Nat.reduceAnd, Nat.reduceXor, Nat.reduceDiv, if_pos, if_neg, aStore, frz, AV.flat, ↓reduceIte, ne_eq, reduceCtorEq, Int.reduceToNat, Nat.reduceEqDiff, Nat.reduceAdd, Nat.reduceSub, Nat.reduceMul, Int.reduceAdd, Int.reduceMul, Int.reduceSub, Int.reduceLT, Int.reduceLE, Int.reduceEq, Int.reduceNe, Nat.reduceLeDiff, Nat.reduceLT, Int.reduceNeg, Nat.reducePow, Nat.reduceMod, ByteArray.size, di, List.length_map]))
    refine SWp.loop (α := Nat) (fun k => mk 169 c [(0, .sl nl (some 10) (l.map entV)), (6, .own 2009 g (some 10) 0 i), (7, int i), (8, int k)] [(2009, g, .row (nl0 i) (enC O))])
      (fun k => k ≤ i ∧ ∀ j (h : j < O.length), j < k → ltB O[j].path l[i].path = true) (fun k => i - k) 0 ⟨Nat.zero_le _, fun j h hj => by omega⟩ (le_mk rfl (Nat.le_refl _) ?_ ?_) ?_
    iterate 2 (case _ => simp (disch := omega) only [wP, wZ, undef, UInt8.reduceToNat, Nat.reduceOr, Nat.reduceAnd, Nat.reduceXor, Nat.reduceDiv, if_pos, if_neg, aStore, frz, AV.flat, ↓reduceIte, ne_eq, reduceCtorEq, Int.reduceToNat, Nat.reduceEqDiff, Nat.reduceAdd, Nat.reduceSub, Nat.reduceMul, Int.reduceAdd, Int.reduceMul, Int.reduceSub, Int.reduceLT, Int.reduceLE, Int.reduceEq, Int.reduceNe, Nat.reduceLeDiff, Nat.reduceLT, Int.reduceNeg, Nat.reducePow, Nat.reduceMod, ByteArray.size])
    rintro k ⟨hk, hlt⟩ -
    have fin : (∀ h : k < O.length, ltB O[k].path l[i].path = false) → insE l[i] O = O.take k ++ l[i] :: O.drop k := fun h => insE_at (by omega) hlt h
    by_cases hk' : k < i
    case' neg =>
      have dk : decide ((k : Int) < (i : Int)) = false := decide_eq_false (by omega)
      have hins := fin (fun h => by omega)
      iterate 6 (first | refine wA ?_ | refine wB ?_ | refine wC rfl ?_ | refine wD rfl ?_ | refine wE ?_ | refine wF (by omega) ?_ | ((first | refine wG ?_ | refine wH ?_ | refine wI ?_ | refine wJ ?_ | refine wK ?_ | refine wL ?_); simp (disch := omega) only [wP, wZ, undef, UInt8.reduceToNat, Nat.reduceOr, Nat.reduceAnd, Nat.reduceXor, Nat.reduceDiv, if_pos, if_neg, aStore, frz, AV.flat, ↓reduceIte, ne_eq, reduceCtorEq, Int.reduceToNat, Nat.reduceEqDiff, Nat.reduceAdd, Nat.reduceSub, Nat.reduceMul, Int.reduceAdd, Int.reduceMul, Int.reduceSub, Int.reduceLT, Int.reduceLE, Int.reduceEq, Int.reduceNe, Nat.reduceLeDiff, Nat.reduceLT, Int.reduceNeg, Nat.reducePow, Nat.reduceMod, ByteArray.size, dk]))
    case' pos =>
      have dk : decide ((k : Int) < (i : Int)) = true := decide_eq_true (by omega)
      have hkO : k < O.length := by omega
      have c0 : (enC O).getD (k * 10) .junk = str O[k].path := cell_enC (l := O) (i := k) (j := 0) hkO (by omega)
      by_cases hb : ltB O[k].path l[i].path = true
      case' pos =>
        have hbb : Op.bytesLess O[k].path l[i].path = true := hb
        repeat (first | refine wA ?_ | refine wB ?_ | refine wC rfl ?_ | refine wD rfl ?_ | refine wE ?_ | refine wF (by omega) ?_ | ((first | refine wG ?_ | refine wH ?_ | refine wI ?_ | refine wJ ?_ | refine wK ?_ | refine wL ?_); simp (disch := omega) only [wP, wZ, undef, UInt8.reduceToNat, Nat.reduceOr, Nat.reduceAnd, Nat.reduceXor, Nat.reduceDiv, if_pos, if_neg, aStore, frz, AV.flat, ↓reduceIte, ne_eq, reduceCtorEq, Int.reduceToNat, Nat.reduceEqDiff, Nat.reduceAdd, Nat.reduceSub, Nat.reduceMul, Int.reduceAdd, Int.reduceMul, Int.reduceSub, Int.reduceLT, Int.reduceLE, Int.reduceEq, Int.reduceNe, Nat.reduceLeDiff, Nat.reduceLT, Int.reduceNeg, Nat.reducePow, Nat.reduceMod, ByteArray.size, dk, c0, length_enC, hol, List.length_map, hgi, entV, entL, hbb]))
        refine At.of (k + 1) ⟨by omega, fun j hj hjk => ?_⟩ (by omega) rfl rfl (Nat.le_refl _) ?_ ?_
        · by_cases e : j = k
          · subst e; exact hb
          · exact hlt j (by omega) (by omega)
        iterate 2 (case _ => simp (disch := omega) only [wP, wZ, undef, UInt8.reduceToNat, Nat.reduceOr, Nat.reduceAnd, Nat.reduceXor, Nat.reduceDiv, if_pos, if_neg, aStore, frz, AV.flat, ↓reduceIte, ne_eq, reduceCtorEq, Int.reduceToNat, Nat.reduceEqDiff, Nat.reduceAdd, Nat.reduceSub, Nat.reduceMul, Int.reduceAdd, Int.reduceMul, Int.reduceSub, Int.reduceLT, Int.reduceLE, Int.reduceEq, Int.reduceNe, Nat.reduceLeDiff, Nat.reduceLT, Int.reduceNeg, Nat.reducePow, Nat.reduceMod, ByteArray.size])
      case' neg =>
        have hbb : Op.bytesLess O[k].path l[i].path = false := by cases h : Op.bytesLess O[k].path l[i].path; rfl; exact absurd h hb
        have hins := fin (fun h => hbb)
        iterate 6 (first | refine wA ?_ | refine wB ?_ | refine wC rfl ?_ | refine wD rfl ?_ | refine wE ?_ | refine wF (by omega) ?_ | ((first | refine wG ?_ | refine wH ?_ | refine wI ?_ | refine wJ ?_ | refine wK ?_ | refine wL ?_); simp (disch := omega) only [wP, wZ, undef, UInt8.reduceToNat, Nat.reduceOr, Nat.reduceAnd, Nat.reduceXor, Nat.reduceDiv, if_pos, if_neg, aStore, frz, AV.flat, ↓reduceIte, ne_eq, reduceCtorEq, Int.reduceToNat, Nat.reduceEqDiff, Nat.reduceAdd, Nat.reduceSub, Nat.reduceMul, Int.reduceAdd, Int.reduceMul, Int.reduceSub, Int.reduceLT, Int.reduceLE, Int.reduceEq, Int.reduceNe, Nat.reduceLeDiff, Nat.reduceLT, Int.reduceNeg, Nat.reducePow, Nat.reduceMod, ByteArray.size, dk, c0, length_enC, hol, List.length_map, hgi, entV, entL, hbb]))
        repeat refine And.intro (by omega) ?_
    all_goals
      refine SWp.le (st' := mk 169 c [(0, .sl nl (some 10) (l.map entV)), (6, .own 2009 g (some 10) 0 i), (7, int i), (8, int k), (44, .sc (.bool false))] [(2009, g, .row (nl0 i) (enC O))]) (le_mk rfl (Nat.le_refl _) ?_ ?_) ?_
      iterate 2 (case _ => simp (disch := omega) only [wP, wZ, undef, UInt8.reduceToNat, Nat.reduceOr, Nat.reduceAnd, Nat.reduceXor, Nat.reduceDiv, if_pos, if_neg, aStore, frz, AV.flat, ↓reduceIte, ne_eq, reduceCtorEq, Int.reduceToNat, Nat.reduceEqDiff, Nat.reduceAdd, Nat.reduceSub, Nat.reduceMul, Int.reduceAdd, Int.reduceMul, Int.reduceSub, Int.reduceLT, Int.reduceLE, Int.reduceEq, Int.reduceNe, Nat.reduceLeDiff, Nat.reduceLT, Int.reduceNeg, Nat.reducePow, Nat.reduceMod, ByteArray.size])
      have h1 : chunks (some 10) k (enC O) = (O.take k).map entV := chunks_take (by omega)
      have h2 : chunks (some 10) (i - k) ((enC O).drop (k * 10)) = (O.drop k).map entV := by rw [← hol]; exact chunks_drop
      have hlt1 : (O.take k).length = k := by rw [List.length_take]; omega
      have hlt2 : (O.drop k).length = i - k := by rw [List.length_drop, hol]
      have ce : cellsA (entV l[i]) = some (entL l[i]) := rfl
      have cl : (entL l[i]).length = 10 := rfl
      have ct : (entL l[i]).take 10 = entL l[i] := rfl
      have cf : (∀ (y : AV), y ∈ [AV.agg (entL l[i])] → ∃ xs, y = AV.agg xs) = True := eq_true fun y hy => ⟨_, List.mem_singleton.1 hy⟩
      have cg : cellsA (.agg (entL l[i])) = some (entL l[i]) := rfl
      repeat (first | refine wA ?_ | refine wB ?_ | refine wC rfl ?_ | refine wD rfl ?_ | refine wE ?_ | refine wF (by omega) ?_ | ((first | refine wG ?_ | refine wH ?_ | refine wI ?_ | refine wJ ?_ | refine wK ?_ | refine wL ?_); simp (disch := omega) only [wP, wZ, undef, UInt8.reduceToNat, Nat.reduceOr, Nat.reduceAnd, Nat.reduceXor, Nat.reduceDiv, if_pos, if_neg, aStore, frz, AV.flat, ↓reduceIte, ne_eq, reduceCtorEq, Int.reduceToNat, Nat.reduceEqDiff, Nat.reduceAdd, Nat.reduceSub, Nat.reduceMul, Int.reduceAdd, Int.reduceMul, Int.reduceSub, Int.reduceLT, Int.reduceLE, Int.reduceEq, Int.reduceNe, Nat.reduceLeDiff, Nat.reduceLT, Int.reduceNeg, Nat.reducePow, Nat.reduceMod, ByteArray.size, h1, h2, hgi, flat_en', flatOk_en, length_enC, List.length_map, hlt1, hlt2, hol, ce, cl, ct, cf, cg, List.flatMap_cons, List.flatMap_nil, Option.getD_some, List.append_nil]))
      refine ⟨⟨⟨_, rfl, rfl⟩, by simp only [entL, AV.free, AV.free.freeL, str, int, free_u8, Bool.and_self]⟩, ⟨by omega, by omega⟩, ?_⟩
      have he : enC (O.take k) ++ (entL l[i] ++ enC (O.drop k)) = enC (sortE (l.take (i + 1))) := by rw [hst, hins, ← enC_cons, enC_append]
      have hadd : k + 1 + (i - k) = i + 1 := by omega
      repeat (first | refine wA ?_ | refine wB ?_ | refine wC rfl ?_ | refine wD rfl ?_ | refine wE ?_ | refine wF (by omega) ?_ | ((first | refine wG ?_ | refine wH ?_ | refine wI ?_ | refine wJ ?_ | refine wK ?_ | refine wL ?_); simp (disch := omega) only [wP, wZ, undef, UInt8.reduceToNat, Nat.reduceOr, Nat.reduceAnd, Nat.reduceXor, Nat.reduceDiv, if_pos, if_neg, aStore, frz, AV.flat, ↓reduceIte, ne_eq, reduceCtorEq, Int.reduceToNat, Nat.reduceEqDiff, Nat.reduceAdd, Nat.reduceSub, Nat.reduceMul, Int.reduceAdd, Int.reduceMul, Int.reduceSub, Int.reduceLT, Int.reduceLE, Int.reduceEq, Int.reduceNe, Nat.reduceLeDiff, Nat.reduceLT, Int.reduceNeg, Nat.reducePow, Nat.reduceMod, ByteArray.size, h1, h2, flat_en', flatOk_en, length_enC, List.length_map, hlt1, hlt2, hol, List.append_assoc, he, hadd, List.length_append, cl]))
      refine At.of (i + 1, c + 2, c + 3) ⟨by simp only; omega, by simp only; omega⟩ (by simp only; omega) rfl rfl (Nat.le_refl _) ?_ ?_
      · simp (disch := omega) only [wP, wZ, undef, UInt8.reduceToNat, Nat.reduceOr, Nat.reduceAnd, Nat.reduceXor, Nat.reduceDiv, if_pos, if_neg, aStore, frz, AV.flat, ↓reduceIte, ne_eq, reduceCtorEq, Int.reduceToNat, Nat.reduceEqDiff, Nat.reduceAdd, Nat.reduceSub, Nat.reduceMul, Int.reduceAdd, Int.reduceMul, Int.reduceSub, Int.reduceLT, Int.reduceLE, Int.reduceEq, Int.reduceNe, Nat.reduceLeDiff, Nat.reduceLT, Int.reduceNeg, Nat.reducePow, Nat.reduceMod, ByteArray.size]
        try omega
      · simp (disch := omega) only [wP, wZ, undef, UInt8.reduceToNat, Nat.reduceOr, Nat.reduceAnd, Nat.reduceXor, Nat.reduceDiv, if_pos, if_neg, aStore, frz, AV.flat, ↓reduceIte, ne_eq, reduceCtorEq, Int.reduceToNat, Nat.reduceEqDiff, Nat.reduceAdd, Nat.reduceSub, Nat.reduceMul, Int.reduceAdd, Int.reduceMul, Int.reduceSub, Int.reduceLT, Int.reduceLE, Int.reduceEq, Int.reduceNe, Nat.reduceLeDiff, Nat.reduceLT, Int.reduceNeg, Nat.reducePow, Nat.reduceMod, ByteArray.size, nl0_succ, Bool.and_false, List.isEmpty_cons, he, List.append_assoc, Bool.false_and]
        try (rw [← he, List.take_of_length_le (by omega)])
  have di : decide ((i : Int) < (l.length : Int)) = false := decide_eq_false (by omega)
  have hil : i = l.length := by omega
  subst hil
  rw [List.take_length] at hol ⊢
  have hzd : canD l = docL (sortE l) l.length := rfl
  repeat (first | refine wA ?_ | refine wB ?_ | refine wC rfl ?_ | refine wD rfl ?_ | refine wE ?_ | refine wF (by omega) ?_ | ((first | refine wG ?_ | refine wH ?_ | refine wI ?_ | refine wJ ?_ | refine wK ?_ | refine wL ?_); simp (disch := omega) only [wP, wZ, undef, UInt8.reduceToNat, Nat.reduceOr, Nat.reduceAnd, Nat.reduceXor, Nat.reduceDiv, if_pos, if_neg, aStore, frz, AV.flat, ↓reduceIte, ne_eq, reduceCtorEq, Int.reduceToNat, Nat.reduceEqDiff, Nat.reduceAdd, Nat.reduceSub, Nat.reduceMul, Int.reduceAdd, Int.reduceMul, Int.reduceSub, Int.reduceLT, Int.reduceLE, Int.reduceEq, Int.reduceNe, Nat.reduceLeDiff, Nat.reduceLT, Int.reduceNeg, Nat.reducePow, Nat.reduceMod, ByteArray.size, di, List.length_map]))
  refine SWp.loop (α := Nat) (fun k => mk 169 c [(6, .own 51 g (some 10) 0 l.length), (10, int k)] [(51, g, .row (nl0 l.length) (enC (docL (sortE l) k)))])
    (fun k => k ≤ l.length) (fun k => l.length - k) 0 (Nat.zero_le _) (le_mk rfl (Nat.le_refl _) ?_ ?_) ?_
  iterate 2 (case _ => simp (disch := omega) only [wP, wZ, undef, UInt8.reduceToNat, Nat.reduceOr, Nat.reduceAnd, Nat.reduceXor, Nat.reduceDiv, if_pos, if_neg, aStore, frz, AV.flat, ↓reduceIte, ne_eq, reduceCtorEq, Int.reduceToNat, Nat.reduceEqDiff, Nat.reduceAdd, Nat.reduceSub, Nat.reduceMul, Int.reduceAdd, Int.reduceMul, Int.reduceSub, Int.reduceLT, Int.reduceLE, Int.reduceEq, Int.reduceNe, Nat.reduceLeDiff, Nat.reduceLT, Int.reduceNeg, Nat.reducePow, Nat.reduceMod, ByteArray.size, docL])
  rintro k hk -
  have hlen : (docL (sortE l) k).length = l.length := by rw [docL_len, sortE_length]
  have hnext : docL (sortE l) (k + 1) = docS (docL (sortE l) k) k := rfl
  by_cases hk' : k < l.length
  case neg =>
    have dk : decide ((k : Int) < (l.length : Int)) = false := decide_eq_false (by omega)
    have e : k = l.length := by omega
    subst e
    rw [← hzd] at hlen ⊢
    have hch : chunks (some 10) l.length (enC (canD l)) = (canD l).map entV := by rw [← hlen]; exact chunks_enC
    subst hZ
    repeat (first | refine wA ?_ | refine wB ?_ | refine wC rfl ?_ | refine wD rfl ?_ | refine wE ?_ | refine wF (by omega) ?_ | ((first | refine wG ?_ | refine wH ?_ | refine wI ?_ | refine wJ ?_ | refine wK ?_ | refine wL ?_); simp (disch := omega) only [wP, wZ, undef, UInt8.reduceToNat, Nat.reduceOr, Nat.reduceAnd, Nat.reduceXor, Nat.reduceDiv, if_pos, if_neg, aStore, frz, AV.flat, ↓reduceIte, ne_eq, reduceCtorEq, Int.reduceToNat, Nat.reduceEqDiff, Nat.reduceAdd, Nat.reduceSub, Nat.reduceMul, Int.reduceAdd, Int.reduceMul, Int.reduceSub, Int.reduceLT, Int.reduceLE, Int.reduceEq, Int.reduceNe, Nat.reduceLeDiff, Nat.reduceLT, Int.reduceNeg, Nat.reducePow, Nat.reduceMod, ByteArray.size, dk, length_enC, hlen, hch]))
    done
  have dk : decide ((k : Int) < (l.length : Int)) = true := decide_eq_true (by omega)
  obtain ⟨L, hL⟩ : ∃ L, L = docL (sortE l) k := ⟨_, rfl⟩
  rw [← hL] at hlen hnext
  rw [← hL]
  have hkL : k < L.length := by omega
  have hgk : L.getD k default = L[k] := by simp [List.getD, List.getElem?_eq_getElem hkL]
  rw [docS, hgk] at hnext
  have c1 : (enC L).getD (k * 10 + 1) .junk = int L[k].kind := cell_enC (j := 1) hkL (by omega)
  have c8 : (enC L).getD (k * 10 + 8) .junk = str L[k].link := cell_enC (j := 8) hkL (by omega)
  by_cases k4 : L[k].kind = 4
  case neg =>
    have q4 : decide (L[k].kind = 4) = false := decide_eq_false k4
    rw [if_neg k4] at hnext
    repeat (first | refine wA ?_ | refine wB ?_ | refine wC rfl ?_ | refine wD rfl ?_ | refine wE ?_ | refine wF (by omega) ?_ | ((first | refine wG ?_ | refine wH ?_ | refine wI ?_ | refine wJ ?_ | refine wK ?_ | refine wL ?_); simp (disch := omega) only [wP, wZ, undef, UInt8.reduceToNat, Nat.reduceOr, Nat.reduceAnd, Nat.reduceXor, Nat.reduceDiv, if_pos, if_neg, aStore, frz, AV.flat, ↓reduceIte, ne_eq, reduceCtorEq, Int.reduceToNat, Nat.reduceEqDiff, Nat.reduceAdd, Nat.reduceSub, Nat.reduceMul, Int.reduceAdd, Int.reduceMul, Int.reduceSub, Int.reduceLT, Int.reduceLE, Int.reduceEq, Int.reduceNe, Nat.reduceLeDiff, Nat.reduceLT, Int.reduceNeg, Nat.reducePow, Nat.reduceMod, ByteArray.size, dk, c1, length_enC, hlen, q4, Bool.not_false]))
    refine At.of (k + 1) (by omega) (by omega) rfl rfl (Nat.le_refl _) ?_ ?_
    · simp (disch := omega) only [wP, wZ, undef, UInt8.reduceToNat, Nat.reduceOr, Nat.reduceAnd, Nat.reduceXor, Nat.reduceDiv, if_pos, if_neg, aStore, frz, AV.flat, ↓reduceIte, ne_eq, reduceCtorEq, Int.reduceToNat, Nat.reduceEqDiff, Nat.reduceAdd, Nat.reduceSub, Nat.reduceMul, Int.reduceAdd, Int.reduceMul, Int.reduceSub, Int.reduceLT, Int.reduceLE, Int.reduceEq, Int.reduceNe, Nat.reduceLeDiff, Nat.reduceLT, Int.reduceNeg, Nat.reducePow, Nat.reduceMod, ByteArray.size]
    · rw [hnext]
      simp (disch := omega) only [wP, wZ, undef, UInt8.reduceToNat, Nat.reduceOr, Nat.reduceAnd, Nat.reduceXor, Nat.reduceDiv, if_pos, if_neg, aStore, frz, AV.flat, ↓reduceIte, ne_eq, reduceCtorEq, Int.reduceToNat, Nat.reduceEqDiff, Nat.reduceAdd, Nat.reduceSub, Nat.reduceMul, Int.reduceAdd, Int.reduceMul, Int.reduceSub, Int.reduceLT, Int.reduceLE, Int.reduceEq, Int.reduceNe, Nat.reduceLeDiff, Nat.reduceLT, Int.reduceNeg, Nat.reducePow, Nat.reduceMod, ByteArray.size]
  have q4 : decide (L[k].kind = 4) = true := decide_eq_true k4
  rw [if_pos k4] at hnext
  repeat (first | refine wA ?_ | refine wB ?_ | refine wC rfl ?_ | refine wD rfl ?_ | refine wE ?_ | refine wF (by omega) ?_ | ((first | refine wG ?_ | refine wH ?_ | refine wI ?_ | refine wJ ?_ | refine wK ?_ | refine wL ?_); simp (disch := omega) only [wP, wZ, undef, UInt8.reduceToNat, Nat.reduceOr, Nat.reduceAnd, Nat.reduceXor, Nat.reduceDiv, if_pos, if_neg, aStore, frz, AV.flat, ↓reduceIte, ne_eq, reduceCtorEq, Int.reduceToNat, Nat.reduceEqDiff, Nat.reduceAdd, Nat.reduceSub, Nat.reduceMul, Int.reduceAdd, Int.reduceMul, Int.reduceSub, Int.reduceLT, Int.reduceLE, Int.reduceEq, Int.reduceNe, Nat.reduceLeDiff, Nat.reduceLT, Int.reduceNeg, Nat.reducePow, Nat.reduceMod, ByteArray.size, dk, c1, c8, length_enC, hlen, q4, Bool.not_true]))
  have hsh : shE L := by
    rw [hL]
    exact docL_sh (shE_perm (sortE_perm l) (fun e he => ⟨(hs e he).1, (hs e he).2.2.2.1⟩)) k (by rw [sortE_length]; omega)
  have hfi := ref_Find_c (nl0 l.length) L (by omega) L[k].link (hsh _ (List.getElem_mem hkL)).2
  have hch : chunks (some 10) l.length (enC L) = L.map entV := by rw [← hlen]; exact chunks_enC
  have hfe : AV.free.freeL (L.map entV) = true := free_ents
  have hp1 := posOf_lt (p := L[k].link) (l := L)
  obtain ⟨F, hF⟩ : ∃ F, F = posOf L[k].link L := ⟨_, rfl⟩
  rw [← hF] at hfi hnext hp1
  refine goC_p (int F) (.inr ⟨rfl, ?_, ?_⟩) ?_
  · simp (disch := omega) only [wP, wZ, undef, UInt8.reduceToNat, Nat.reduceOr, Nat.reduceAnd, Nat.reduceXor, Nat.reduceDiv, if_pos, if_neg, aStore, frz, AV.flat, ↓reduceIte, ne_eq, reduceCtorEq, Int.reduceToNat, Nat.reduceEqDiff, Nat.reduceAdd, Nat.reduceSub, Nat.reduceMul, Int.reduceAdd, Int.reduceMul, Int.reduceSub, Int.reduceLT, Int.reduceLE, Int.reduceEq, Int.reduceNe, Nat.reduceLeDiff, Nat.reduceLT, Int.reduceNeg, Nat.reducePow, Nat.reduceMod, ByteArray.size, hch, List.drop_zero, length_enC, hlen, AV.free.freeL, AV.free, hfe, Bool.and_self, Nat.le_refl]
  · simp (disch := omega) only [wP, wZ, undef, UInt8.reduceToNat, Nat.reduceOr, Nat.reduceAnd, Nat.reduceXor, Nat.reduceDiv, if_pos, if_neg, aStore, frz, AV.flat, ↓reduceIte, ne_eq, reduceCtorEq, Int.reduceToNat, Nat.reduceEqDiff, Nat.reduceAdd, Nat.reduceSub, Nat.reduceMul, Int.reduceAdd, Int.reduceMul, Int.reduceSub, Int.reduceLT, Int.reduceLE, Int.reduceEq, Int.reduceNe, Nat.reduceLeDiff, Nat.reduceLT, Int.reduceNeg, Nat.reducePow, Nat.reduceMod, ByteArray.size, hch, List.drop_zero, length_enC, hlen, Nat.le_refl]
    exact hfi
  by_cases b1 : F < (k : Int)
  · have e1 : decide (F < (k : Int)) = true := decide_eq_true b1
    rw [if_pos b1] at hnext
    repeat (first | refine wA ?_ | refine wB ?_ | refine wC rfl ?_ | refine wD rfl ?_ | refine wE ?_ | refine wF (by omega) ?_ | ((first | refine wG ?_ | refine wH ?_ | refine wI ?_ | refine wJ ?_ | refine wK ?_ | refine wL ?_); simp (disch := omega) only [wP, wZ, undef, UInt8.reduceToNat, Nat.reduceOr, Nat.reduceAnd, Nat.reduceXor, Nat.reduceDiv, if_pos, if_neg, aStore, frz, AV.flat, ↓reduceIte, ne_eq, reduceCtorEq, Int.reduceToNat, Nat.reduceEqDiff, Nat.reduceAdd, Nat.reduceSub, Nat.reduceMul, Int.reduceAdd, Int.reduceMul, Int.reduceSub, Int.reduceLT, Int.reduceLE, Int.reduceEq, Int.reduceNe, Nat.reduceLeDiff, Nat.reduceLT, Int.reduceNeg, Nat.reducePow, Nat.reduceMod, ByteArray.size, e1]))
    refine At.of (k + 1) (by omega) (by omega) rfl rfl (Nat.le_refl _) ?_ ?_
    · simp (disch := omega) only [wP, wZ, undef, UInt8.reduceToNat, Nat.reduceOr, Nat.reduceAnd, Nat.reduceXor, Nat.reduceDiv, if_pos, if_neg, aStore, frz, AV.flat, ↓reduceIte, ne_eq, reduceCtorEq, Int.reduceToNat, Nat.reduceEqDiff, Nat.reduceAdd, Nat.reduceSub, Nat.reduceMul, Int.reduceAdd, Int.reduceMul, Int.reduceSub, Int.reduceLT, Int.reduceLE, Int.reduceEq, Int.reduceNe, Nat.reduceLeDiff, Nat.reduceLT, Int.reduceNeg, Nat.reducePow, Nat.reduceMod, ByteArray.size]
    · rw [hnext]
      simp (disch := omega) only [wP, wZ, undef, UInt8.reduceToNat, Nat.reduceOr, Nat.reduceAnd, Nat.reduceXor, Nat.reduceDiv, if_pos, if_neg, aStore, frz, AV.flat, ↓reduceIte, ne_eq, reduceCtorEq, Int.reduceToNat, Nat.reduceEqDiff, Nat.reduceAdd, Nat.reduceSub, Nat.reduceMul, Int.reduceAdd, Int.reduceMul, Int.reduceSub, Int.reduceLT, Int.reduceLE, Int.reduceEq, Int.reduceNe, Nat.reduceLeDiff, Nat.reduceLT, Int.reduceNeg, Nat.reducePow, Nat.reduceMod, ByteArray.size]
  have e1 : decide (F < (k : Int)) = false := decide_eq_false b1
  rw [if_neg b1] at hnext
  obtain ⟨f, hf⟩ : ∃ f : Nat, F = (f : Int) := ⟨F.toNat, by omega⟩
  clear hF
  subst hf
  have hfL : f < L.length := by omega
  have hgf : L.getD f default = L[f] := by simp [List.getD, List.getElem?_eq_getElem hfL]
  rw [Int.toNat_natCast, hgf] at hnext
  have f1 : (enC L).getD (f * 10 + 1) .junk = int L[f].kind := cell_enC (j := 1) hfL (by omega)
  by_cases b2 : L[f].kind = 1
  case neg =>
    have e2 : decide (L[f].kind = 1) = false := decide_eq_false b2
    rw [if_neg b2] at hnext
    repeat (first | refine wA ?_ | refine wB ?_ | refine wC rfl ?_ | refine wD rfl ?_ | refine wE ?_ | refine wF (by omega) ?_ | ((first | refine wG ?_ | refine wH ?_ | refine wI ?_ | refine wJ ?_ | refine wK ?_ | refine wL ?_); simp (disch := omega) only [wP, wZ, undef, UInt8.reduceToNat, Nat.reduceOr, Nat.reduceAnd, Nat.reduceXor, Nat.reduceDiv, if_pos, if_neg, aStore, frz, AV.flat, ↓reduceIte, ne_eq, reduceCtorEq, Int.reduceToNat, Nat.reduceEqDiff, Nat.reduceAdd, Nat.reduceSub, Nat.reduceMul, Int.reduceAdd, Int.reduceMul, Int.reduceSub, Int.reduceLT, Int.reduceLE, Int.reduceEq, Int.reduceNe, Nat.reduceLeDiff, Nat.reduceLT, Int.reduceNeg, Nat.reducePow, Nat.reduceMod, ByteArray.size, e1, e2, f1, length_enC, hlen, Bool.not_false]))
    refine At.of (k + 1) (by omega) (by omega) rfl rfl (Nat.le_refl _) ?_ ?_
    · simp (disch := omega) only [wP, wZ, undef, UInt8.reduceToNat, Nat.reduceOr, Nat.reduceAnd, Nat.reduceXor, Nat.reduceDiv, if_pos, if_neg, aStore, frz, AV.flat, ↓reduceIte, ne_eq, reduceCtorEq, Int.reduceToNat, Nat.reduceEqDiff, Nat.reduceAdd, Nat.reduceSub, Nat.reduceMul, Int.reduceAdd, Int.reduceMul, Int.reduceSub, Int.reduceLT, Int.reduceLE, Int.reduceEq, Int.reduceNe, Nat.reduceLeDiff, Nat.reduceLT, Int.reduceNeg, Nat.reducePow, Nat.reduceMod, ByteArray.size]
    · rw [hnext]
      simp (disch := omega) only [wP, wZ, undef, UInt8.reduceToNat, Nat.reduceOr, Nat.reduceAnd, Nat.reduceXor, Nat.reduceDiv, if_pos, if_neg, aStore, frz, AV.flat, ↓reduceIte, ne_eq, reduceCtorEq, Int.reduceToNat, Nat.reduceEqDiff, Nat.reduceAdd, Nat.reduceSub, Nat.reduceMul, Int.reduceAdd, Int.reduceMul, Int.reduceSub, Int.reduceLT, Int.reduceLE, Int.reduceEq, Int.reduceNe, Nat.reduceLeDiff, Nat.reduceLT, Int.reduceNeg, Nat.reducePow, Nat.reduceMod, ByteArray.size]
  have e2 : decide (L[f].kind = 1) = true := decide_eq_true b2
  rw [if_pos b2] at hnext
  have hkf : k ≠ f := fun e => by
    subst e
    rw [k4] at b2
    exact absurd b2 (by decide)
  have s1 : (enC L).take (k * 10 + 1) ++ .sc (.int .i64 1) :: (enC L).drop (k * 10 + 1 + 1) = enC (L.set k { L[k] with kind := 1 }) := store_enC hkL (by omega) rfl
  have s2 : (enC (L.set k { L[k] with kind := 1 })).take (k * 10 + 8) ++ .sc (.string ⟨#[]⟩) :: (enC (L.set k { L[k] with kind := 1 })).drop (k * 10 + 8 + 1) = enC (L.set k { L[k] with kind := 1, link := [] }) := by
    have := store_enC (l := L.set k { L[k] with kind := 1 }) (i := k) (j := 8) (v := .sc (.string ⟨#[]⟩)) (e := { L[k] with kind := 1, link := [] }) (by simpa using hkL) (by omega) (by simp only [List.getElem_set_self]; rfl)
    rw [List.set_set] at this
    exact this
  have g9 : (enC (L.set k { L[k] with kind := 1, link := [] })).getD (f * 10 + 9) .junk = .sl L[f].nl none (L[f].data.map u8) := by
    have := cell_enC (l := L.set k { L[k] with kind := 1, link := [] }) (i := f) (j := 9) (by simpa using hfL) (by omega)
    rw [this, List.getElem_set_ne (by omega)]
    rfl
  have s3 : (enC (L.set k { L[k] with kind := 1, link := [] })).take (k * 10 + 9) ++ .sl L[f].nl none (L[f].data.map u8) :: (enC (L.set k { L[k] with kind := 1, link := [] })).drop (k * 10 + 9 + 1) = enC (L.set k (asReg L[k] L[f])) := by
    have := store_enC (l := L.set k { L[k] with kind := 1, link := [] }) (i := k) (j := 9) (v := .sl L[f].nl none (L[f].data.map u8)) (e := asReg L[k] L[f]) (by simpa using hkL) (by omega) (by simp only [List.getElem_set_self]; rfl)
    rw [List.set_set] at this
    exact this
  obtain ⟨A, hA⟩ : ∃ A, A = L.set k (asReg L[k] L[f]) := ⟨_, rfl⟩
  have hAl : A.length = l.length := by rw [hA, List.length_set, hlen]
  have hAk : k < A.length := by omega
  have hAf : f < A.length := by omega
  have hAfe : A[f] = L[f] := by simp only [hA]; rw [List.getElem_set_ne hkf]
  have hAke : A[k].path = L[k].path := by simp only [hA, List.getElem_set_self]; rfl
  rw [← hA] at s3 hnext
  have t1 : (enC A).take (f * 10 + 1) ++ .sc (.int .i64 4) :: (enC A).drop (f * 10 + 1 + 1) = enC (A.set f { L[f] with kind := 4 }) := store_enC hAf (by omega) (by rw [hAfe]; rfl)
  have g0 : (enC (A.set f { L[f] with kind := 4 })).getD (k * 10) .junk = str L[k].path := by
    have := cell_enC (l := A.set f { L[f] with kind := 4 }) (i := k) (j := 0) (by simpa using hAk) (by omega)
    rw [Nat.add_zero] at this
    rw [this, List.getElem_set_ne (by omega), ← hAke]
    rfl
  have t2 : (enC (A.set f { L[f] with kind := 4 })).take (f * 10 + 8) ++ .sc (.string ⟨L[k].path.toArray⟩) :: (enC (A.set f { L[f] with kind := 4 })).drop (f * 10 + 8 + 1) = enC (A.set f { L[f] with kind := 4, link := L[k].path }) := by
    have := store_enC (l := A.set f { L[f] with kind := 4 }) (i := f) (j := 8) (v := str L[k].path) (e := { L[f] with kind := 4, link := L[k].path }) (by simpa using hAf) (by omega) (by simp only [List.getElem_set_self]; rfl)
    rw [List.set_set] at this
    exact this
  have t3 : (enC (A.set f { L[f] with kind := 4, link := L[k].path })).take (f * 10 + 9) ++ .sl true none [] :: (enC (A.set f { L[f] with kind := 4, link := L[k].path })).drop (f * 10 + 9 + 1) = enC (A.set f (asHard L[f] L[k].path)) := by
    have := store_enC (l := A.set f { L[f] with kind := 4, link := L[k].path }) (i := f) (j := 9) (v := .sl true none []) (e := asHard L[f] L[k].path) (by simpa using hAf) (by omega) (by simp only [List.getElem_set_self]; rfl)
    rw [List.set_set] at this
    exact this
  repeat (first | refine wA ?_ | refine wB ?_ | refine wC rfl ?_ | refine wD rfl ?_ | refine wE ?_ | refine wF (by omega) ?_ | ((first | refine wG ?_ | refine wH ?_ | refine wI ?_ | refine wJ ?_ | refine wK ?_ | refine wL ?_); simp (disch := omega) only [wP, wZ, undef, UInt8.reduceToNat, Nat.reduceOr, Nat.reduceAnd, Nat.reduceXor, Nat.reduceDiv, if_pos, if_neg, aStore, frz, AV.flat, ↓reduceIte, ne_eq, reduceCtorEq, Int.reduceToNat, Nat.reduceEqDiff, Nat.reduceAdd, Nat.reduceSub, Nat.reduceMul, Int.reduceAdd, Int.reduceMul, Int.reduceSub, Int.reduceLT, Int.reduceLE, Int.reduceEq, Int.reduceNe, Nat.reduceLeDiff, Nat.reduceLT, Int.reduceNeg, Nat.reducePow, Nat.reduceMod, ByteArray.size, e1, e2, f1, c8, length_enC, hlen, List.length_set, hAl, Bool.not_true, s1, s2, g9, s3, t1, g0, t2]))
  refine SWp.reread 51 g (nl := nl0 l.length) (cells := (enC (A.set f { L[f] with kind := 4, link := L[k].path })).take (f * 10 + 9) ++ .sc (.slice none 0 0) :: (enC (A.set f { L[f] with kind := 4, link := L[k].path })).drop (f * 10 + 9 + 1)) (enC (A.set f (asHard L[f] L[k].path))) ?_ (fun c h => glL_of_free _ _ free_enC) (fun h => by simp at h) (fun G w vs h => by rw [← t3]; exact nil_rd h) ?_
  · simp (disch := omega) only [wP, wZ, undef, UInt8.reduceToNat, Nat.reduceOr, Nat.reduceAnd, Nat.reduceXor, Nat.reduceDiv, if_pos, if_neg, aStore, frz, AV.flat, ↓reduceIte, ne_eq, reduceCtorEq, Int.reduceToNat, Nat.reduceEqDiff, Nat.reduceAdd, Nat.reduceSub, Nat.reduceMul, Int.reduceAdd, Int.reduceMul, Int.reduceSub, Int.reduceLT, Int.reduceLE, Int.reduceEq, Int.reduceNe, Nat.reduceLeDiff, Nat.reduceLT, Int.reduceNeg, Nat.reducePow, Nat.reduceMod, ByteArray.size]
  obtain ⟨B, hB⟩ : ∃ B, B = A.set f (asHard L[f] L[k].path) := ⟨_, rfl⟩
  have hBl : B.length = l.length := by rw [hB, List.length_set, hAl]
  rw [← hB] at hnext ⊢
  refine SWp.loop (α := Nat) (fun j => mk 169 c [(6, .own 51 g (some 10) 0 l.length), (10, int k), (11, int f), (12, str L[k].link), (13, int j)] [(51, g, .row (nl0 l.length) (enC (rlk B f L[k].link L[k].path j)))])
    (fun j => j ≤ l.length) (fun j => l.length - j) 0 (Nat.zero_le _) (le_mk rfl (Nat.le_refl _) ?_ ?_) ?_
  iterate 2 (case _ => simp (disch := omega) only [wP, wZ, undef, UInt8.reduceToNat, Nat.reduceOr, Nat.reduceAnd, Nat.reduceXor, Nat.reduceDiv, if_pos, if_neg, aStore, frz, AV.flat, ↓reduceIte, ne_eq, reduceCtorEq, Int.reduceToNat, Nat.reduceEqDiff, Nat.reduceAdd, Nat.reduceSub, Nat.reduceMul, Int.reduceAdd, Int.reduceMul, Int.reduceSub, Int.reduceLT, Int.reduceLE, Int.reduceEq, Int.reduceNe, Nat.reduceLeDiff, Nat.reduceLT, Int.reduceNeg, Nat.reducePow, Nat.reduceMod, ByteArray.size, rlk])
  rintro j hj -
  have hMl : (rlk B f L[k].link L[k].path j).length = l.length := by rw [rlk_len, hBl]
  by_cases hj' : j < l.length
  case neg =>
    have dj : decide ((j : Int) < (l.length : Int)) = false := decide_eq_false (by omega)
    have e : j = L.length := by omega
    subst e
    rw [← hnext] at hMl ⊢
    repeat (first | refine wA ?_ | refine wB ?_ | refine wC rfl ?_ | refine wD rfl ?_ | refine wE ?_ | refine wF (by omega) ?_ | ((first | refine wG ?_ | refine wH ?_ | refine wI ?_ | refine wJ ?_ | refine wK ?_ | refine wL ?_); simp (disch := omega) only [wP, wZ, undef, UInt8.reduceToNat, Nat.reduceOr, Nat.reduceAnd, Nat.reduceXor, Nat.reduceDiv, if_pos, if_neg, aStore, frz, AV.flat, ↓reduceIte, ne_eq, reduceCtorEq, Int.reduceToNat, Nat.reduceEqDiff, Nat.reduceAdd, Nat.reduceSub, Nat.reduceMul, Int.reduceAdd, Int.reduceMul, Int.reduceSub, Int.reduceLT, Int.reduceLE, Int.reduceEq, Int.reduceNe, Nat.reduceLeDiff, Nat.reduceLT, Int.reduceNeg, Nat.reducePow, Nat.reduceMod, ByteArray.size, dj]))
    refine At.of (k + 1) (by omega) (by omega) rfl rfl (Nat.le_refl _) ?_ ?_
    iterate 2 (case _ => simp (disch := omega) only [wP, wZ, undef, UInt8.reduceToNat, Nat.reduceOr, Nat.reduceAnd, Nat.reduceXor, Nat.reduceDiv, if_pos, if_neg, aStore, frz, AV.flat, ↓reduceIte, ne_eq, reduceCtorEq, Int.reduceToNat, Nat.reduceEqDiff, Nat.reduceAdd, Nat.reduceSub, Nat.reduceMul, Int.reduceAdd, Int.reduceMul, Int.reduceSub, Int.reduceLT, Int.reduceLE, Int.reduceEq, Int.reduceNe, Nat.reduceLeDiff, Nat.reduceLT, Int.reduceNeg, Nat.reducePow, Nat.reduceMod, ByteArray.size])
  have dj : decide ((j : Int) < (l.length : Int)) = true := decide_eq_true (by omega)
  have hnj : rlk B f L[k].link L[k].path (j + 1) = if j ≠ f ∧ ((rlk B f L[k].link L[k].path j).getD j default).kind = 4 ∧ ((rlk B f L[k].link L[k].path j).getD j default).link = L[k].link then (rlk B f L[k].link L[k].path j).set j { (rlk B f L[k].link L[k].path j).getD j default with link := L[k].path } else rlk B f L[k].link L[k].path j := rfl
  obtain ⟨M, hM⟩ : ∃ M, M = rlk B f L[k].link L[k].path j := ⟨_, rfl⟩
  rw [← hM] at hMl hnj ⊢
  have hjM : j < M.length := by omega
  have hgj : M.getD j default = M[j] := by simp [List.getD, List.getElem?_eq_getElem hjM]
  rw [hgj] at hnj
  have m1 : (enC M).getD (j * 10 + 1) .junk = int M[j].kind := cell_enC (j := 1) hjM (by omega)
  have m8 : (enC M).getD (j * 10 + 8) .junk = str M[j].link := cell_enC (j := 8) hjM (by omega)
  by_cases x1 : j = f
  · have y1 : decide ((j : Int) = (f : Int)) = true := decide_eq_true (by omega)
    rw [if_neg (fun h => h.1 x1)] at hnj
    repeat (first | refine wA ?_ | refine wB ?_ | refine wC rfl ?_ | refine wD rfl ?_ | refine wE ?_ | refine wF (by omega) ?_ | ((first | refine wG ?_ | refine wH ?_ | refine wI ?_ | refine wJ ?_ | refine wK ?_ | refine wL ?_); simp (disch := omega) only [wP, wZ, undef, UInt8.reduceToNat, Nat.reduceOr, Nat.reduceAnd, Nat.reduceXor, Nat.reduceDiv, if_pos, if_neg, aStore, frz, AV.flat, ↓reduceIte, ne_eq, reduceCtorEq, Int.reduceToNat, Nat.reduceEqDiff, Nat.reduceAdd, Nat.reduceSub, Nat.reduceMul, Int.reduceAdd, Int.reduceMul, Int.reduceSub, Int.reduceLT, Int.reduceLE, Int.reduceEq, Int.reduceNe, Nat.reduceLeDiff, Nat.reduceLT, Int.reduceNeg, Nat.reducePow, Nat.reduceMod, ByteArray.size, dj, y1, Bool.not_true, m1, m8, length_enC, hMl, boo]))
    refine At.of (j + 1) (by omega) (by omega) rfl rfl (Nat.le_refl _) ?_ ?_
    · simp (disch := omega) only [wP, wZ, undef, UInt8.reduceToNat, Nat.reduceOr, Nat.reduceAnd, Nat.reduceXor, Nat.reduceDiv, if_pos, if_neg, aStore, frz, AV.flat, ↓reduceIte, ne_eq, reduceCtorEq, Int.reduceToNat, Nat.reduceEqDiff, Nat.reduceAdd, Nat.reduceSub, Nat.reduceMul, Int.reduceAdd, Int.reduceMul, Int.reduceSub, Int.reduceLT, Int.reduceLE, Int.reduceEq, Int.reduceNe, Nat.reduceLeDiff, Nat.reduceLT, Int.reduceNeg, Nat.reducePow, Nat.reduceMod, ByteArray.size]
    · rw [hnj]
      simp (disch := omega) only [wP, wZ, undef, UInt8.reduceToNat, Nat.reduceOr, Nat.reduceAnd, Nat.reduceXor, Nat.reduceDiv, if_pos, if_neg, aStore, frz, AV.flat, ↓reduceIte, ne_eq, reduceCtorEq, Int.reduceToNat, Nat.reduceEqDiff, Nat.reduceAdd, Nat.reduceSub, Nat.reduceMul, Int.reduceAdd, Int.reduceMul, Int.reduceSub, Int.reduceLT, Int.reduceLE, Int.reduceEq, Int.reduceNe, Nat.reduceLeDiff, Nat.reduceLT, Int.reduceNeg, Nat.reducePow, Nat.reduceMod, ByteArray.size]
  have y1 : decide ((j : Int) = (f : Int)) = false := decide_eq_false (by omega)
  by_cases x2 : M[j].kind = 4
  case neg =>
    have y2 : decide (M[j].kind = 4) = false := decide_eq_false x2
    rw [if_neg (fun h => x2 h.2.1)] at hnj
    repeat (first | refine wA ?_ | refine wB ?_ | refine wC rfl ?_ | refine wD rfl ?_ | refine wE ?_ | refine wF (by omega) ?_ | ((first | refine wG ?_ | refine wH ?_ | refine wI ?_ | refine wJ ?_ | refine wK ?_ | refine wL ?_); simp (disch := omega) only [wP, wZ, undef, UInt8.reduceToNat, Nat.reduceOr, Nat.reduceAnd, Nat.reduceXor, Nat.reduceDiv, if_pos, if_neg, aStore, frz, AV.flat, ↓reduceIte, ne_eq, reduceCtorEq, Int.reduceToNat, Nat.reduceEqDiff, Nat.reduceAdd, Nat.reduceSub, Nat.reduceMul, Int.reduceAdd, Int.reduceMul, Int.reduceSub, Int.reduceLT, Int.reduceLE, Int.reduceEq, Int.reduceNe, Nat.reduceLeDiff, Nat.reduceLT, Int.reduceNeg, Nat.reducePow, Nat.reduceMod, ByteArray.size, dj, y1, y2, Bool.not_false, m1, m8, length_enC, hMl, boo]))
    refine At.of (j + 1) (by omega) (by omega) rfl rfl (Nat.le_refl _) ?_ ?_
    · simp (disch := omega) only [wP, wZ, undef, UInt8.reduceToNat, Nat.reduceOr, Nat.reduceAnd, Nat.reduceXor, Nat.reduceDiv, if_pos, if_neg, aStore, frz, AV.flat, ↓reduceIte, ne_eq, reduceCtorEq, Int.reduceToNat, Nat.reduceEqDiff, Nat.reduceAdd, Nat.reduceSub, Nat.reduceMul, Int.reduceAdd, Int.reduceMul, Int.reduceSub, Int.reduceLT, Int.reduceLE, Int.reduceEq, Int.reduceNe, Nat.reduceLeDiff, Nat.reduceLT, Int.reduceNeg, Nat.reducePow, Nat.reduceMod, ByteArray.size]
    · rw [hnj]
      simp (disch := omega) only [wP, wZ, undef, UInt8.reduceToNat, Nat.reduceOr, Nat.reduceAnd, Nat.reduceXor, Nat.reduceDiv, if_pos, if_neg, aStore, frz, AV.flat, ↓reduceIte, ne_eq, reduceCtorEq, Int.reduceToNat, Nat.reduceEqDiff, Nat.reduceAdd, Nat.reduceSub, Nat.reduceMul, Int.reduceAdd, Int.reduceMul, Int.reduceSub, Int.reduceLT, Int.reduceLE, Int.reduceEq, Int.reduceNe, Nat.reduceLeDiff, Nat.reduceLT, Int.reduceNeg, Nat.reducePow, Nat.reduceMod, ByteArray.size]
  have y2 : decide (M[j].kind = 4) = true := decide_eq_true x2
  by_cases x3 : M[j].link = L[k].link
  case neg =>
    have y3 : decide (M[j].link = L[k].link) = false := decide_eq_false x3
    rw [if_neg (fun h => x3 h.2.2)] at hnj
    repeat (first | refine wA ?_ | refine wB ?_ | refine wC rfl ?_ | refine wD rfl ?_ | refine wE ?_ | refine wF (by omega) ?_ | ((first | refine wG ?_ | refine wH ?_ | refine wI ?_ | refine wJ ?_ | refine wK ?_ | refine wL ?_); simp (disch := omega) only [wP, wZ, undef, UInt8.reduceToNat, Nat.reduceOr, Nat.reduceAnd, Nat.reduceXor, Nat.reduceDiv, if_pos, if_neg, aStore, frz, AV.flat, ↓reduceIte, ne_eq, reduceCtorEq, Int.reduceToNat, Nat.reduceEqDiff, Nat.reduceAdd, Nat.reduceSub, Nat.reduceMul, Int.reduceAdd, Int.reduceMul, Int.reduceSub, Int.reduceLT, Int.reduceLE, Int.reduceEq, Int.reduceNe, Nat.reduceLeDiff, Nat.reduceLT, Int.reduceNeg, Nat.reducePow, Nat.reduceMod, ByteArray.size, dj, y1, y2, y3, Bool.not_false, m1, m8, length_enC, hMl, boo]))
    refine At.of (j + 1) (by omega) (by omega) rfl rfl (Nat.le_refl _) ?_ ?_
    · simp (disch := omega) only [wP, wZ, undef, UInt8.reduceToNat, Nat.reduceOr, Nat.reduceAnd, Nat.reduceXor, Nat.reduceDiv, if_pos, if_neg, aStore, frz, AV.flat, ↓reduceIte, ne_eq, reduceCtorEq, Int.reduceToNat, Nat.reduceEqDiff, Nat.reduceAdd, Nat.reduceSub, Nat.reduceMul, Int.reduceAdd, Int.reduceMul, Int.reduceSub, Int.reduceLT, Int.reduceLE, Int.reduceEq, Int.reduceNe, Nat.reduceLeDiff, Nat.reduceLT, Int.reduceNeg, Nat.reducePow, Nat.reduceMod, ByteArray.size]
    · rw [hnj]
      simp (disch := omega) only [wP, wZ, undef, UInt8.reduceToNat, Nat.reduceOr, Nat.reduceAnd, Nat.reduceXor, Nat.reduceDiv, if_pos, if_neg, aStore, frz, AV.flat, ↓reduceIte, ne_eq, reduceCtorEq, Int.reduceToNat, Nat.reduceEqDiff, Nat.reduceAdd, Nat.reduceSub, Nat.reduceMul, Int.reduceAdd, Int.reduceMul, Int.reduceSub, Int.reduceLT, Int.reduceLE, Int.reduceEq, Int.reduceNe, Nat.reduceLeDiff, Nat.reduceLT, Int.reduceNeg, Nat.reducePow, Nat.reduceMod, ByteArray.size]
  have y3 : decide (M[j].link = L[k].link) = true := decide_eq_true x3
  rw [if_pos ⟨x1, x2, x3⟩] at hnj
  have hkM : k < M.length := by omega
  have hMk : M[k].path = L[k].path := by
    have h1 : M.getD k default = M[k] := by simp [List.getD, List.getElem?_eq_getElem hkM]
    have h2 : A.getD k default = A[k] := by simp [List.getD, List.getElem?_eq_getElem hAk]
    have h3 : A.getD f default = L[f] := by simp [List.getD, List.getElem?_eq_getElem hAf, hAfe]
    rw [← h1, hM, rlk_path, hB, getD_set_path (by rw [h3]; rfl), h2, hAke]
  have m0 : (enC M).getD (k * 10) .junk = str L[k].path := by
    have := cell_enC (l := M) (i := k) (j := 0) hkM (by omega)
    rw [← hMk]
    exact this
  have ms : (enC M).take (j * 10 + 8) ++ .sc (.string ⟨L[k].path.toArray⟩) :: (enC M).drop (j * 10 + 8 + 1) = enC (M.set j { M[j] with link := L[k].path }) := store_enC hjM (by omega) rfl
  repeat (first | refine wA ?_ | refine wB ?_ | refine wC rfl ?_ | refine wD rfl ?_ | refine wE ?_ | refine wF (by omega) ?_ | ((first | refine wG ?_ | refine wH ?_ | refine wI ?_ | refine wJ ?_ | refine wK ?_ | refine wL ?_); simp (disch := omega) only [wP, wZ, undef, UInt8.reduceToNat, Nat.reduceOr, Nat.reduceAnd, Nat.reduceXor, Nat.reduceDiv, if_pos, if_neg, aStore, frz, AV.flat, ↓reduceIte, ne_eq, reduceCtorEq, Int.reduceToNat, Nat.reduceEqDiff, Nat.reduceAdd, Nat.reduceSub, Nat.reduceMul, Int.reduceAdd, Int.reduceMul, Int.reduceSub, Int.reduceLT, Int.reduceLE, Int.reduceEq, Int.reduceNe, Nat.reduceLeDiff, Nat.reduceLT, Int.reduceNeg, Nat.reducePow, Nat.reduceMod, ByteArray.size, dj, y1, y2, y3, Bool.not_false, m0, m1, m8, ms, length_enC, hMl, boo]))
  refine At.of (j + 1) (by omega) (by omega) rfl rfl (Nat.le_refl _) ?_ ?_
  · simp (disch := omega) only [wP, wZ, undef, UInt8.reduceToNat, Nat.reduceOr, Nat.reduceAnd, Nat.reduceXor, Nat.reduceDiv, if_pos, if_neg, aStore, frz, AV.flat, ↓reduceIte, ne_eq, reduceCtorEq, Int.reduceToNat, Nat.reduceEqDiff, Nat.reduceAdd, Nat.reduceSub, Nat.reduceMul, Int.reduceAdd, Int.reduceMul, Int.reduceSub, Int.reduceLT, Int.reduceLE, Int.reduceEq, Int.reduceNe, Nat.reduceLeDiff, Nat.reduceLT, Int.reduceNeg, Nat.reducePow, Nat.reduceMod, ByteArray.size]
  · rw [hnj]
    simp (disch := omega) only [wP, wZ, undef, UInt8.reduceToNat, Nat.reduceOr, Nat.reduceAnd, Nat.reduceXor, Nat.reduceDiv, if_pos, if_neg, aStore, frz, AV.flat, ↓reduceIte, ne_eq, reduceCtorEq, Int.reduceToNat, Nat.reduceEqDiff, Nat.reduceAdd, Nat.reduceSub, Nat.reduceMul, Int.reduceAdd, Int.reduceMul, Int.reduceSub, Int.reduceLT, Int.reduceLE, Int.reduceEq, Int.reduceNe, Nat.reduceLeDiff, Nat.reduceLT, Int.reduceNeg, Nat.reducePow, Nat.reduceMod, ByteArray.size]
end Go.Proofs.YtbmmdkbinlnogaaDoor.Aw
namespace Go.Proofs.YtbmmdkbinlnogaaDoor.Aw
open Go
set_option linter.unusedSimpArgs false
set_option linter.unusedVariables false
abbrev gE (l : List Ent) (i : Nat) : Ent := l.getD i default
theorem gE_set {l : List Ent} {i j : Nat} {e : Ent} (hi : i < l.length) : gE (l.set i e) j = if i = j then e else gE l j := by
  by_cases h : i = j
  · subst h
    rw [if_pos rfl]
    simp [gE, List.getD, hi]
  · rw [if_neg h]
    simp [gE, List.getD, List.getElem?_set_ne h]
def grp (e : Ent) : Option (List UInt8) := if e.kind = 1 then some e.path else if e.kind = 4 then some e.link else none
theorem filV_grp {e : Ent} : filV e = match grp e with | some g => (g, true) | none => ([], false) := by
  unfold filV grp
  by_cases h1 : e.kind = 1
  · rw [if_pos h1, if_pos h1]
  · rw [if_neg h1, if_neg h1]
    by_cases h4 : e.kind = 4
    · rw [if_pos h4, if_pos h4]
    · rw [if_neg h4, if_neg h4]
theorem grp_reg {e : Ent} (h : e.kind = 1) : grp e = some e.path := if_pos h
theorem grp_hard {e : Ent} (h : e.kind = 4) : grp e = some e.link := by rw [grp, if_neg (by omega), if_pos h]
theorem grp_kind {e : Ent} {g : List UInt8} (h : grp e = some g) : (e.kind = 1 ∧ e.path = g) ∨ (e.kind = 4 ∧ e.link = g) := by
  unfold grp at h
  by_cases h1 : e.kind = 1
  · rw [if_pos h1] at h
    exact .inl ⟨h1, Option.some.inj h⟩
  · rw [if_neg h1] at h
    by_cases h4 : e.kind = 4
    · rw [if_pos h4] at h
      exact .inr ⟨h4, Option.some.inj h⟩
    · rw [if_neg h4] at h
      cases h
structure Good (s : List Ent) : Prop where
  nd : ∀ i j, i < s.length → j < s.length → (gE s i).path = (gE s j).path → i = j
  reg : ∀ i, i < s.length → (gE s i).kind = 1 → (gE s i).link = []
  hard : ∀ i, i < s.length → (gE s i).kind = 4 → (gE s i).data = []
  file : ∀ i, i < s.length → (gE s i).kind = 4 → ∃ f, f < s.length ∧ (gE s f).kind = 1 ∧ (gE s f).path = (gE s i).link
def fstG (s : List Ent) (g : List UInt8) (m : Nat) : Prop := m < s.length ∧ grp (gE s m) = some g ∧ ∀ j, j < m → grp (gE s j) ≠ some g
theorem fstG_uni {s : List Ent} {g : List UInt8} {m m' : Nat} (h : fstG s g m) (h' : fstG s g m') : m = m' := by
  rcases Nat.lt_trichotomy m m' with c | c | c
  · exact absurd h.2.1 (h'.2.2 m c)
  · exact c
  · exact absurd h'.2.1 (h.2.2 m' c)
theorem fstG_ex {s : List Ent} {g : List UInt8} : ∀ j, j < s.length → grp (gE s j) = some g → ∃ m, m ≤ j ∧ fstG s g m := by
  intro j
  induction j using Nat.strongRecOn with
  | ind j ih =>
    intro hj hg
    by_cases c : ∃ i, i < j ∧ grp (gE s i) = some g
    · obtain ⟨i, hi, hgi⟩ := c
      obtain ⟨m, hm, hf⟩ := ih i hi (by omega) hgi
      exact ⟨m, by omega, hf⟩
    · exact ⟨j, Nat.le_refl _, hj, hg, fun i hi h => c ⟨i, hi, h⟩⟩
theorem file_uni {s : List Ent} (hG : Good s) {g : List UInt8} {i j : Nat} (hi : i < s.length) (hj : j < s.length) (gi : grp (gE s i) = some g) (gj : grp (gE s j) = some g) (ki : (gE s i).kind = 1) (kj : (gE s j).kind = 1) : i = j := by
  rw [grp_reg ki] at gi
  rw [grp_reg kj] at gj
  exact hG.nd i j hi hj (by rw [Option.some.inj gi, Option.some.inj gj])
structure InvP (s L : List Ent) (F : Fi) (k : Nat) : Prop where
  len : L.length = s.length
  hi : ∀ j, k ≤ j → gE L j = gE s j
  F : ∀ g m, findF g F = some m ↔ fstG s g m ∧ m < k
  no : ∀ j, grp (gE s j) = none → gE L j = gE s j
  non : ∀ j, j < k → ∀ g m, fstG s g m → grp (gE s j) = some g → m < j → gE L j = asHard (gE s j) (gE s m).path
  fs1 : ∀ g m, fstG s g m → m < k → ∀ f, m < f → f < k → grp (gE s f) = some g → (gE s f).kind = 1 → gE L m = asReg (gE s m) (gE s f)
  fs2 : ∀ g m, fstG s g m → m < k → (∀ f, m < f → f < k → grp (gE s f) = some g → (gE s f).kind ≠ 1) → gE L m = gE s m
theorem findF_app {p q : List UInt8} {i : Nat} : ∀ {F : Fi}, findF p (F ++ [(q, i)]) = match findF p F with | some m => some m | none => if p = q then some i else none
  | [] => rfl
  | e :: F => by
    rw [List.cons_append, findF, findF]
    by_cases h : p = e.1
    · rw [if_pos h, if_pos h]
    · rw [if_neg h, if_neg h]; exact findF_app
theorem invP_path {s L : List Ent} {F : Fi} {k : Nat} (h : InvP s L F k) {g : List UInt8} {m : Nat} (hf : fstG s g m) (hm : m < k) : (gE L m).path = (gE s m).path ∧ ∀ x, asReg (gE L m) x = asReg (gE s m) x := by
  by_cases c : ∃ f, m < f ∧ f < k ∧ grp (gE s f) = some g ∧ (gE s f).kind = 1
  · obtain ⟨f, h1, h2, h3, h4⟩ := c
    rw [h.fs1 g m hf hm f h1 h2 h3 h4]
    exact ⟨rfl, fun _ => rfl⟩
  · rw [h.fs2 g m hf hm (fun f h1 h2 h3 h4 => c ⟨f, h1, h2, h3, h4⟩)]
    exact ⟨rfl, fun _ => rfl⟩
theorem invP_step {s L : List Ent} {F : Fi} {k : Nat} (hG : Good s) (h : InvP s L F k) (hk : k < s.length) : InvP s (regS L F k).1 (regS L F k).2 (k + 1) := by
  have hLk : L.getD k default = gE s k := h.hi k (Nat.le_refl _)
  have hkL : k < L.length := by rw [h.len]; exact hk
  cases hg : grp (gE s k) with
  | none =>
    have e : regS L F k = (L, F) := by rw [regS, hLk, filV_grp, hg]; rfl
    rw [e]
    refine ⟨h.len, fun j hj => h.hi j (by omega), fun g m => ?_, h.no, fun j hj g m hf hgj hm => ?_, fun g m hf hm f h1 h2 h3 h4 => ?_, fun g m hf hm hn => ?_⟩
    · rw [h.F]
      refine ⟨fun ⟨a, b⟩ => ⟨a, by omega⟩, fun ⟨a, b⟩ => ⟨a, ?_⟩⟩
      by_cases c : m = k
      · subst c
        have := a.2.1
        rw [hg] at this
        cases this
      · omega
    · by_cases c : j = k
      · subst c; rw [hg] at hgj; cases hgj
      · exact h.non j (by omega) g m hf hgj hm
    · have hmk : m < k := by
        by_cases c : m = k
        · subst c; have := hf.2.1; rw [hg] at this; cases this
        · omega
      by_cases c : f = k
      · subst c; rw [hg] at h3; cases h3
      · exact h.fs1 g m hf hmk f h1 (by omega) h3 h4
    · have hmk : m < k := by
        by_cases c : m = k
        · subst c; have := hf.2.1; rw [hg] at this; cases this
        · omega
      exact h.fs2 g m hf hmk (fun f h1 h2 h3 => hn f h1 (by omega) h3)
  | some g =>
    cases hF : findF g F with
    | none =>
      have e : regS L F k = (L, F ++ [(g, k)]) := by rw [regS, hLk, filV_grp, hg]; simp only [hF]; rfl
      have hfk : fstG s g k := by
        obtain ⟨m, hm, hf⟩ := fstG_ex k hk hg
        by_cases c : m = k
        · subst c; exact hf
        · have := (h.F g m).2 ⟨hf, by omega⟩
          rw [hF] at this
          cases this
      rw [e]
      have old : ∀ g' m, fstG s g' m → m < k → g' ≠ g := fun g' m hf hm e => by
        subst e
        have := fstG_uni hf hfk
        omega
      refine ⟨h.len, fun j hj => h.hi j (by omega), fun g' m => ?_, h.no, fun j hj g' m hf hgj hm => ?_, fun g' m hf hm f h1 h2 h3 h4 => ?_, fun g' m hf hm hn => ?_⟩
      · rw [findF_app]
        cases hF' : findF g' F with
        | some m' =>
          have h1 := (h.F g' m').1 hF'
          constructor
          · intro e2
            have : m' = m := Option.some.inj e2
            subst this
            exact ⟨h1.1, by omega⟩
          · rintro ⟨a, b⟩
            rw [fstG_uni h1.1 a]
        | none =>
          by_cases c : g' = g
          · subst c
            simp only [if_pos rfl]
            constructor
            · intro e2
              have : k = m := Option.some.inj e2
              subst this
              exact ⟨hfk, by omega⟩
            · rintro ⟨a, b⟩
              rw [fstG_uni hfk a]
              exact if_pos trivial
          · simp only [if_neg c]
            constructor
            · intro e2; cases e2
            · rintro ⟨a, b⟩
              exfalso
              have hne : m ≠ k := fun e2 => by
                subst e2
                have := a.2.1
                rw [hg] at this
                exact c (Option.some.inj this).symm
              have := (h.F g' m).2 ⟨a, by omega⟩
              rw [hF'] at this
              cases this
      · by_cases c : j = k
        · subst c
          rw [hg] at hgj
          obtain rfl := Option.some.inj hgj
          have := fstG_uni hf hfk
          omega
        · exact h.non j (by omega) g' m hf hgj hm
      · by_cases c : m = k
        · omega
        · have hmk : m < k := by omega
          by_cases c2 : f = k
          · subst c2
            rw [hg] at h3
            exact absurd (Option.some.inj h3).symm (old g' m hf hmk)
          · exact h.fs1 g' m hf hmk f h1 (by omega) h3 h4
      · by_cases c : m = k
        · subst c; exact h.hi m (Nat.le_refl _)
        · exact h.fs2 g' m hf (by omega) (fun f h1 h2 h3 => hn f h1 (by omega) h3)
    | some m =>
      obtain ⟨hfm, hmk⟩ := (h.F g m).1 hF
      obtain ⟨hpm, hrm⟩ := invP_path h hfm hmk
      have hmL : m < L.length := by omega
      obtain ⟨L1, hL1⟩ : ∃ L1, L1 = if (gE s k).kind = 1 then L.set m (asReg (gE s m) (gE s k)) else L := ⟨_, rfl⟩
      have e : regS L F k = (L1.set k (asHard (gE s k) (gE s m).path), F) := by
        rw [regS, hLk, filV_grp, hg]
        simp only [hF, if_true]
        rw [hL1, ← hpm, ← hrm]
      have hl1 : L1.length = L.length := by rw [hL1]; split <;> simp
      have hk1 : k < L1.length := by omega
      have hg1 : ∀ j, j ≠ m → gE L1 j = gE L j := fun j hj => by
        rw [hL1]
        split
        · rw [gE_set hmL, if_neg (fun e => hj e.symm)]
        · rfl
      have hg2 : ∀ j, j ≠ m → j ≠ k → gE (L1.set k (asHard (gE s k) (gE s m).path)) j = gE L j := fun j h1 h2 => by
        rw [gE_set hk1, if_neg (fun e => h2 e.symm), hg1 j h1]
      have hgm : gE (L1.set k (asHard (gE s k) (gE s m).path)) m = gE L1 m := by rw [gE_set hk1, if_neg (by omega)]
      rw [e]
      refine ⟨by rw [List.length_set, hl1, h.len], fun j hj => ?_, fun g' m' => ?_, fun j hj => ?_, fun j hj g' m' hf hgj hm => ?_, fun g' m' hf hm f h1 h2 h3 h4 => ?_, fun g' m' hf hm hn => ?_⟩
      · rw [hg2 j (by omega) (by omega)]
        exact h.hi j (by omega)
      · rw [h.F]
        refine ⟨fun ⟨a, b⟩ => ⟨a, by omega⟩, fun ⟨a, b⟩ => ⟨a, ?_⟩⟩
        by_cases c : m' = k
        · subst c
          have := a.2.1
          rw [hg] at this
          obtain rfl := Option.some.inj this
          have := fstG_uni a hfm
          omega
        · omega
      · have h1 : j ≠ m := fun c => by subst c; have := hfm.2.1; rw [hj] at this; cases this
        have h2 : j ≠ k := fun c => by subst c; rw [hg] at hj; cases hj
        rw [hg2 j h1 h2]
        exact h.no j hj
      · by_cases c : j = k
        · subst c
          rw [hg] at hgj
          obtain rfl := Option.some.inj hgj
          rw [fstG_uni hf hfm, gE_set hk1, if_pos rfl]
        · have h1 : j ≠ m := fun c2 => by
            subst c2
            have := hfm.2.1
            rw [hgj] at this
            obtain rfl := Option.some.inj this
            have := fstG_uni hf hfm
            omega
          rw [hg2 j h1 c]
          exact h.non j (by omega) g' m' hf hgj hm
      · by_cases c : m' = m
        · subst c
          have hgg : g' = g := by
            have := hf.2.1
            rw [hfm.2.1] at this
            exact (Option.some.inj this).symm
          subst hgg
          rw [hgm]
          by_cases c2 : f = k
          · subst c2
            rw [hL1, if_pos h4, gE_set hmL, if_pos rfl]
          · have hk4 : (gE s k).kind ≠ 1 := fun h5 => c2 (file_uni hG (by omega) hk h3 hg h4 h5)
            rw [hL1, if_neg hk4]
            exact h.fs1 g' m' hf hmk f h1 (by omega) h3 h4
        · have hmk' : m' < k := by
            by_cases c3 : m' = k
            · omega
            · omega
          have hgg : g' ≠ g := fun e2 => by subst e2; exact c (fstG_uni hf hfm)
          rw [hg2 m' c (by omega)]
          by_cases c2 : f = k
          · subst c2
            rw [hg] at h3
            exact absurd (Option.some.inj h3).symm hgg
          · exact h.fs1 g' m' hf hmk' f h1 (by omega) h3 h4
      · by_cases c : m' = m
        · subst c
          have hgg : g' = g := by
            have := hf.2.1
            rw [hfm.2.1] at this
            exact (Option.some.inj this).symm
          subst hgg
          have hk4 : (gE s k).kind ≠ 1 := hn k hmk (by omega) hg
          rw [hgm, hL1, if_neg hk4]
          exact h.fs2 g' m' hf hmk (fun f h1 h2 h3 => hn f h1 (by omega) h3)
        · have hmk' : m' < k := by
            by_cases c3 : m' = k
            · subst c3
              have := hf.2.1
              rw [hg] at this
              obtain rfl := Option.some.inj this
              exact absurd (fstG_uni hf hfm) c
            · omega
          rw [hg2 m' c (by omega)]
          exact h.fs2 g' m' hf hmk' (fun f h1 h2 h3 => hn f h1 (by omega) h3)
theorem invP_all {s : List Ent} (hG : Good s) : ∀ k, k ≤ s.length → InvP s (regL s k).1 (regL s k).2 k
  | 0, _ => ⟨rfl, fun _ _ => rfl, fun g m => by simp [regL, findF], fun _ _ => rfl, fun j hj => by omega, fun _ m _ hm => by omega, fun _ m _ hm => by omega⟩
  | k + 1, hk => invP_step hG (invP_all hG k (by omega)) (by omega)
end Go.Proofs.YtbmmdkbinlnogaaDoor.Aw
namespace Go.Proofs.YtbmmdkbinlnogaaDoor.Aw
open Go
set_option linter.unusedSimpArgs false
set_option linter.unusedVariables false
theorem rlk_get {L : List Ent} {f : Nat} {old p : List UInt8} : ∀ k, k ≤ L.length → ∀ j, gE (rlk L f old p k) j = if j < k ∧ j ≠ f ∧ (gE L j).kind = 4 ∧ (gE L j).link = old then { gE L j with link := p } else gE L j
  | 0, _, j => by rw [if_neg (by omega)]; rfl
  | k + 1, hk, j => by
    have ih := rlk_get (L := L) (f := f) (old := old) (p := p) k (by omega)
    have ihk := ih k
    rw [if_neg (by omega)] at ihk
    have hl : k < (rlk L f old p k).length := by rw [rlk_len]; omega
    rw [rlk]
    have e : (rlk L f old p k).getD k default = gE L k := ihk
    rw [e]
    by_cases c : k ≠ f ∧ (gE L k).kind = 4 ∧ (gE L k).link = old
    · rw [if_pos c, gE_set hl]
      by_cases h : k = j
      · subst h
        rw [if_pos rfl, if_pos ⟨by omega, c⟩]
      · rw [if_neg h, ih j]
        by_cases d : j < k ∧ j ≠ f ∧ (gE L j).kind = 4 ∧ (gE L j).link = old
        · rw [if_pos d, if_pos ⟨by omega, d.2⟩]
        · rw [if_neg d, if_neg (fun d' => d ⟨by omega, d'.2⟩)]
    · rw [if_neg c, ih j]
      by_cases d : j < k ∧ j ≠ f ∧ (gE L j).kind = 4 ∧ (gE L j).link = old
      · rw [if_pos d, if_pos ⟨by omega, d.2⟩]
      · rw [if_neg d, if_neg (fun d' => by
          by_cases h : j = k
          · subst h; exact c d'.2
          · exact d ⟨by omega, d'.2⟩)]
theorem docS_path {L : List Ent} {i j : Nat} : (gE (docS L i) j).path = (gE L j).path := by
  unfold docS
  split
  · split
    · rfl
    · split
      · rw [gE, rlk_path, getD_set_path, getD_set_path]
        · rfl
        · show _ = ((L.set i _).getD _ default).path
          rw [getD_set_path]
          · rfl
          · rfl
      · rfl
  · rfl
theorem posOf_is {p : List UInt8} {L : List Ent} {k : Nat} (hk : k < L.length) (h : (gE L k).path = p) (hn : ∀ j, j < k → (gE L j).path ≠ p) : posOf p L = k := by
  have e : ∀ i (hi : i < L.length), gE L i = L[i] := fun i hi => by simp [gE, List.getD, List.getElem?_eq_getElem hi]
  exact posOf_some hk (by rw [← e k hk]; exact h) (fun j hj => by rw [← e j (by omega)]; exact hn j hj)
structure InvD (s L : List Ent) (k : Nat) : Prop where
  len : L.length = s.length
  pth : ∀ j, (gE L j).path = (gE s j).path
  no : ∀ j, grp (gE s j) = none → gE L j = gE s j
  lo : ∀ g m, fstG s g m → k ≤ m → ∀ j, grp (gE s j) = some g → gE L j = gE s j
  h1 : ∀ g m, fstG s g m → m < k → (gE s m).kind = 1 → ∀ j, grp (gE s j) = some g → gE L j = gE s j
  h4 : ∀ g m, fstG s g m → m < k → (gE s m).kind ≠ 1 → ∀ f, f < s.length → grp (gE s f) = some g → (gE s f).kind = 1 →
    gE L m = asReg (gE s m) (gE s f) ∧ gE L f = asHard (gE s f) (gE s m).path ∧ ∀ j, j < s.length → j ≠ m → j ≠ f → grp (gE s j) = some g → gE L j = { gE s j with link := (gE s m).path }
theorem invD_same {s L : List Ent} {k : Nat} (h : InvD s L k) (e : docS L k = L) (hb : ∀ g, fstG s g k → (gE s k).kind = 1) : InvD s (docS L k) (k + 1) := by
  rw [e]
  refine ⟨h.len, h.pth, h.no, fun g m hf hm => h.lo g m hf (by omega), fun g m hf hm hk j hj => ?_, fun g m hf hm hk f hfl hgf hkf => ?_⟩
  · by_cases c : m = k
    · subst c; exact h.lo g m hf (Nat.le_refl _) j hj
    · exact h.h1 g m hf (by omega) hk j hj
  · by_cases c : m = k
    · subst c; exact absurd (hb g hf) hk
    · exact h.h4 g m hf (by omega) hk f hfl hgf hkf
theorem docS_skip {L : List Ent} {i : Nat} (h : (gE L i).kind ≠ 4 ∨ posOf (gE L i).link L < i) : docS L i = L := by
  unfold docS
  by_cases c : (gE L i).kind = 4
  · rw [if_pos c]
    rcases h with h | h
    · exact absurd c h
    · rw [if_pos h]
  · rw [if_neg c]
theorem invD_step {s L : List Ent} {k : Nat} (hG : Good s) (h : InvD s L k) (hk : k < s.length) : InvD s (docS L k) (k + 1) := by
  have pos : ∀ i, i < s.length → posOf (gE s i).path L = i := fun i hi =>
    posOf_is (by rw [h.len]; exact hi) (h.pth i) (fun j hj e => by rw [h.pth] at e; have := hG.nd j i (by omega) hi e; omega)
  cases hg : grp (gE s k) with
  | none =>
    have e : gE L k = gE s k := h.no k hg
    have hk4 : (gE L k).kind ≠ 4 := fun c => by rw [e] at c; rw [grp_hard c] at hg; cases hg
    exact invD_same h (docS_skip (.inl hk4)) (fun g hf => by have := hf.2.1; rw [hg] at this; cases this)
  | some g =>
    obtain ⟨m, hm, hf⟩ := fstG_ex k hk hg
    have hml : m < s.length := hf.1
    by_cases c : m = k
    · subst c
      have e : gE L m = gE s m := h.lo g m hf (Nat.le_refl _) m hg
      rcases grp_kind hg with ⟨k1, p1⟩ | ⟨k4, l4⟩
      · exact invD_same h (docS_skip (.inl (by rw [e, k1]; decide))) (fun _ _ => k1)
      · obtain ⟨f, hfl, kf, pf⟩ := hG.file m hk k4
        have hgf : grp (gE s f) = some g := by rw [grp_reg kf, pf, l4]
        have hfm : f ≠ m := fun e => by subst e; rw [k4] at kf; exact absurd kf (by decide)
        have hmf : m < f := by
          rcases Nat.lt_trichotomy f m with c | c | c
          · exact absurd hgf (hf.2.2 f c)
          · exact absurd c hfm
          · exact c
        have ef : gE L f = gE s f := h.lo g m hf (Nat.le_refl _) f hgf
        have hpos : posOf (gE L m).link L = f := by rw [e, ← pf]; exact pos f hfl
        have hLm : m < L.length := by rw [h.len]; exact hk
        have hLf : f < L.length := by rw [h.len]; exact hfl
        obtain ⟨B, hB⟩ : ∃ B, B = (L.set m (asReg (gE s m) (gE s f))).set f (asHard (gE s f) (gE s m).path) := ⟨_, rfl⟩
        have hD : docS L m = rlk B f g (gE s m).path L.length := by
          unfold docS
          have e' : L.getD m default = gE s m := e
          have ef' : L.getD f default = gE s f := ef
          have hpos' : posOf (gE s m).link L = f := by rw [← e]; exact hpos
          rw [e', if_pos k4, hpos', if_neg (by omega), Int.toNat_natCast, ef', if_pos kf, l4, hB]
        have hBl : B.length = L.length := by rw [hB]; simp
        have hBm : gE B m = asReg (gE s m) (gE s f) := by rw [hB, gE_set (by simpa using hLf), if_neg hfm, gE_set hLm, if_pos rfl]
        have hBf : gE B f = asHard (gE s f) (gE s m).path := by rw [hB, gE_set (by simpa using hLf), if_pos rfl]
        have hBo : ∀ j, j ≠ m → j ≠ f → gE B j = gE L j := fun j h1 h2 => by rw [hB, gE_set (by simpa using hLf), if_neg (fun x => h2 x.symm), gE_set hLm, if_neg (fun x => h1 x.symm)]
        have get : ∀ j, gE (docS L m) j = if j < L.length ∧ j ≠ f ∧ (gE B j).kind = 4 ∧ (gE B j).link = g then { gE B j with link := (gE s m).path } else gE B j := fun j => by rw [hD, rlk_get _ (by rw [hBl]; exact Nat.le_refl _)]
        have gm : gE (docS L m) m = asReg (gE s m) (gE s f) := by
          rw [get, if_neg (fun x => by have := x.2.2.1; rw [hBm] at this; exact absurd this (show ¬ (1 : Int) = 4 by decide)), hBm]
        have gf : gE (docS L m) f = asHard (gE s f) (gE s m).path := by rw [get, if_neg (fun x => x.2.1 rfl), hBf]
        have gin : ∀ j, j < s.length → j ≠ m → j ≠ f → grp (gE s j) = some g → gE (docS L m) j = { gE s j with link := (gE s m).path } := fun j hj h1 h2 hgj => by
          have ej : gE L j = gE s j := h.lo g m hf (Nat.le_refl _) j hgj
          rcases grp_kind hgj with ⟨kj, pj⟩ | ⟨kj, lj⟩
          · exact absurd (file_uni hG hj hfl hgj hgf kj kf) h2
          · rw [get, hBo j h1 h2, ej, if_pos ⟨by rw [h.len]; exact hj, h2, kj, lj⟩]
        have gout : ∀ j, j ≠ m → j ≠ f → ¬ ((gE L j).kind = 4 ∧ (gE L j).link = g) → gE (docS L m) j = gE L j := fun j h1 h2 hn => by
          rw [get, hBo j h1 h2, if_neg (fun x => hn ⟨x.2.2.1, x.2.2.2⟩)]
        have other : ∀ g' j, grp (gE s j) = some g' → g' ≠ g → j ≠ m ∧ j ≠ f := fun g' j hj hne => ⟨fun e => by subst e; rw [hg] at hj; exact hne (Option.some.inj hj).symm, fun e => by subst e; rw [hgf] at hj; exact hne (Option.some.inj hj).symm⟩
        have plain : ∀ g' j, grp (gE s j) = some g' → g' ≠ g → gE L j = gE s j → gE (docS L m) j = gE s j := fun g' j hj hne ej => by
          obtain ⟨h1, h2⟩ := other g' j hj hne
          rw [gout j h1 h2 (fun x => by
            rw [ej] at x
            rw [grp_hard x.1] at hj
            exact hne (by rw [← Option.some.inj hj, x.2])), ej]
        refine ⟨by rw [docS_len, h.len], fun j => by rw [docS_path, h.pth], fun j hj => ?_, fun g' m' hf' hm' j hj => ?_, fun g' m' hf' hm' hk' j hj => ?_, fun g' m' hf' hm' hk' f' hfl' hgf' hkf' => ?_⟩
        · have ej := h.no j hj
          have h1 : j ≠ m := fun e => by subst e; rw [hg] at hj; cases hj
          have h2 : j ≠ f := fun e => by subst e; rw [hgf] at hj; cases hj
          rw [gout j h1 h2 (fun x => by rw [ej] at x; rw [grp_hard x.1] at hj; cases hj), ej]
        · have hne : g' ≠ g := fun e => by subst e; have := fstG_uni hf' hf; omega
          exact plain g' j hj hne (h.lo g' m' hf' (by omega) j hj)
        · by_cases c : m' = m
          · subst c; rw [k4] at hk'; exact absurd hk' (by decide)
          · have hne : g' ≠ g := fun e => by subst e; exact c (fstG_uni hf' hf)
            exact plain g' j hj hne (h.h1 g' m' hf' (by omega) hk' j hj)
        · by_cases c : m' = m
          · subst c
            have hgg : g' = g := by
              have := hf'.2.1
              rw [hg] at this
              exact (Option.some.inj this).symm
            subst hgg
            obtain rfl := file_uni hG hfl' hfl hgf' hgf hkf' kf
            exact ⟨gm, gf, gin⟩
          · have hne : g' ≠ g := fun e => by subst e; exact c (fstG_uni hf' hf)
            obtain ⟨q1, q2, q3⟩ := h.h4 g' m' hf' (by omega) hk' f' hfl' hgf' hkf'
            have hlink : (gE s m').path ≠ g := fun e => by
              have : m' = f := hG.nd m' f hf'.1 hfl (by rw [e, pf, l4])
              subst this
              exact hk' kf
            obtain ⟨a1, a2⟩ := other g' m' hf'.2.1 hne
            obtain ⟨b1, b2⟩ := other g' f' hgf' hne
            refine ⟨?_, ?_, fun j hj h1 h2 hgj => ?_⟩
            · rw [gout m' a1 a2 (fun x => by have := x.1; rw [q1] at this; exact absurd this (show ¬ (1 : Int) = 4 by decide)), q1]
            · rw [gout f' b1 b2 (fun x => by have := x.2; rw [q2] at this; exact hlink this), q2]
            · obtain ⟨d1, d2⟩ := other g' j hgj hne
              have q := q3 j hj h1 h2 hgj
              rw [gout j d1 d2 (fun x => by have := x.2; rw [q] at this; exact hlink this), q]
    · have hmk : m < k := by omega
      have hbad : ∀ g', fstG s g' k → (gE s k).kind = 1 := fun g' hf' => by
        have := hf'.2.1
        rw [hg] at this
        obtain rfl := Option.some.inj this
        exact absurd (fstG_uni hf hf') c
      refine invD_same h (docS_skip ?_) hbad
      by_cases km : (gE s m).kind = 1
      · have ek := h.h1 g m hf hmk km k hg
        rcases grp_kind hg with ⟨k1, p1⟩ | ⟨k4, l4⟩
        · exact absurd (file_uni hG hml hk hf.2.1 hg km k1) c
        · right
          have pm : (gE s m).path = g := by have := hf.2.1; rw [grp_reg km] at this; exact Option.some.inj this
          rw [ek, l4, ← pm, pos m hml]
          omega
      · have km4 : (gE s m).kind = 4 := by
          rcases grp_kind hf.2.1 with ⟨a, _⟩ | ⟨a, _⟩
          · exact absurd a km
          · exact a
        obtain ⟨f, hfl, kf, pf⟩ := hG.file m hml km4
        have lm : (gE s m).link = g := by have := hf.2.1; rw [grp_hard km4] at this; exact Option.some.inj this
        have hgf : grp (gE s f) = some g := by rw [grp_reg kf, pf, lm]
        obtain ⟨q1, q2, q3⟩ := h.h4 g m hf hmk km f hfl hgf kf
        right
        by_cases d : k = f
        · subst d
          rw [q2]
          show posOf (gE s m).path L < _
          rw [pos m hml]
          omega
        · rw [q3 k hk (by omega) d hg]
          show posOf (gE s m).path L < _
          rw [pos m hml]
          omega
theorem invD_all {s : List Ent} (hG : Good s) : ∀ k, k ≤ s.length → InvD s (docL s k) k
  | 0, _ => ⟨rfl, fun _ => rfl, fun _ _ => rfl, fun _ _ _ _ _ _ => rfl, fun _ m _ hm => by omega, fun _ m _ hm => by omega⟩
  | k + 1, hk => invD_step hG (invD_all hG k (by omega)) (by omega)
end Go.Proofs.YtbmmdkbinlnogaaDoor.Aw
namespace Go.Proofs.YtbmmdkbinlnogaaDoor.Aw
open Go
set_option linter.unusedSimpArgs false
set_option linter.unusedVariables false
set_option maxHeartbeats 1000000 in
set_option maxRecDepth 100000 in
theorem Canon_n [Tabs Tryd.prog] : Con Tryd.prog n_entry_Canon [.sl true (some 10) []] (.tup [.sl true (some 10) [], int 0]) := by
  refine Con.of' mix Tryd.func19 rfl Tryd.ntmps19 e_entry_Canon r_entry_Canon (by simp) rfl rfl ?_
  unfold s_entry_Canon
  repeat (first | refine wA ?_ | refine wB ?_ | refine wC rfl ?_ | refine wD rfl ?_ | refine wE ?_ | refine wF (by omega) ?_ | ((first | refine wG ?_ | refine wH ?_ | refine wI ?_ | refine wJ ?_ | refine wK ?_ | refine wL ?_); simp (disch := omega) only [wP, wZ, undef, UInt8.reduceToNat, Nat.reduceOr, Nat.reduceAnd, Nat.reduceXor, Nat.reduceDiv, if_pos, if_neg, aStore, frz, AV.flat, ↓reduceIte, ne_eq, reduceCtorEq, Int.reduceToNat, Nat.reduceEqDiff, Nat.reduceAdd, Nat.reduceSub, Nat.reduceMul, Int.reduceAdd, Int.reduceMul, Int.reduceSub, Int.reduceLT, Int.reduceLE, Int.reduceEq, Int.reduceNe, Nat.reduceLeDiff, Nat.reduceLT, Int.reduceNeg, Nat.reducePow, Nat.reduceMod, ByteArray.size]))
  refine goC_p _ (.inl ⟨rfl, CheckAll_c caOk true [] (by simp) (by simp)⟩) ?_
  have h0 : chkAll [] = (0, 0) := rfl
  rw [h0]
  repeat (first | refine wA ?_ | refine wB ?_ | refine wC rfl ?_ | refine wD rfl ?_ | refine wE ?_ | refine wF (by omega) ?_ | ((first | refine wG ?_ | refine wH ?_ | refine wI ?_ | refine wJ ?_ | refine wK ?_ | refine wL ?_); simp (disch := omega) only [wP, wZ, undef, UInt8.reduceToNat, Nat.reduceOr, Nat.reduceAnd, Nat.reduceXor, Nat.reduceDiv, if_pos, if_neg, aStore, frz, AV.flat, ↓reduceIte, ne_eq, reduceCtorEq, Int.reduceToNat, Nat.reduceEqDiff, Nat.reduceAdd, Nat.reduceSub, Nat.reduceMul, Int.reduceAdd, Int.reduceMul, Int.reduceSub, Int.reduceLT, Int.reduceLE, Int.reduceEq, Int.reduceNe, Nat.reduceLeDiff, Nat.reduceLT, Int.reduceNeg, Nat.reducePow, Nat.reduceMod, ByteArray.size]))
  refine goC_p _ (.inl ⟨rfl, Copy_n⟩) ?_
  iterate 2 (first | refine wA ?_ | refine wB ?_ | refine wC rfl ?_ | refine wD rfl ?_ | refine wE ?_ | refine wF (by omega) ?_ | ((first | refine wG ?_ | refine wH ?_ | refine wI ?_ | refine wJ ?_ | refine wK ?_ | refine wL ?_); simp (disch := omega) only [wP, wZ, undef, UInt8.reduceToNat, Nat.reduceOr, Nat.reduceAnd, Nat.reduceXor, Nat.reduceDiv, if_pos, if_neg, aStore, frz, AV.flat, ↓reduceIte, ne_eq, reduceCtorEq, Int.reduceToNat, Nat.reduceEqDiff, Nat.reduceAdd, Nat.reduceSub, Nat.reduceMul, Int.reduceAdd, Int.reduceMul, Int.reduceSub, Int.reduceLT, Int.reduceLE, Int.reduceEq, Int.reduceNe, Nat.reduceLeDiff, Nat.reduceLT, Int.reduceNeg, Nat.reducePow, Nat.reduceMod, ByteArray.size]))
  refine SWp.adopt 6 (some 10) (by simp (disch := omega) only [wP, wZ, undef, UInt8.reduceToNat, Nat.reduceOr, Nat.reduceAnd, Nat.reduceXor, Nat.reduceDiv, if_pos, if_neg, aStore, frz, AV.flat, ↓reduceIte, ne_eq, reduceCtorEq, Int.reduceToNat, Nat.reduceEqDiff, Nat.reduceAdd, Nat.reduceSub, Nat.reduceMul, Int.reduceAdd, Int.reduceMul, Int.reduceSub, Int.reduceLT, Int.reduceLE, Int.reduceEq, Int.reduceNe, Nat.reduceLeDiff, Nat.reduceLT, Int.reduceNeg, Nat.reducePow, Nat.reduceMod, ByteArray.size]) ?_
  repeat (first | refine wA ?_ | refine wB ?_ | refine wC rfl ?_ | refine wD rfl ?_ | refine wE ?_ | refine wF (by omega) ?_ | ((first | refine wG ?_ | refine wH ?_ | refine wI ?_ | refine wJ ?_ | refine wK ?_ | refine wL ?_); simp (disch := omega) only [wP, wZ, undef, UInt8.reduceToNat, Nat.reduceOr, Nat.reduceAnd, Nat.reduceXor, Nat.reduceDiv, if_pos, if_neg, aStore, frz, AV.flat, ↓reduceIte, ne_eq, reduceCtorEq, Int.reduceToNat, Nat.reduceEqDiff, Nat.reduceAdd, Nat.reduceSub, Nat.reduceMul, Int.reduceAdd, Int.reduceMul, Int.reduceSub, Int.reduceLT, Int.reduceLE, Int.reduceEq, Int.reduceNe, Nat.reduceLeDiff, Nat.reduceLT, Int.reduceNeg, Nat.reducePow, Nat.reduceMod, ByteArray.size]))
  have h2 : HCon Tryd.prog n_slices_SortFuncapi_Entryapi_Entry [.own 1000 0 (some 10) 0 0, .sc (.func (.func n_entry_Canon_1) #[] #[])] [.row true []] (.tup []) [(1000, 0, .row true [])] 1 := SortFunc_h true [] (by simp) (by simp) (by simp)
  refine goC_h [(6, 0)] 300 h2 (by simp) (by simp) (by simp (disch := omega) only [wP, wZ, undef, UInt8.reduceToNat, Nat.reduceOr, Nat.reduceAnd, Nat.reduceXor, Nat.reduceDiv, if_pos, if_neg, aStore, frz, AV.flat, ↓reduceIte, ne_eq, reduceCtorEq, Int.reduceToNat, Nat.reduceEqDiff, Nat.reduceAdd, Nat.reduceSub, Nat.reduceMul, Int.reduceAdd, Int.reduceMul, Int.reduceSub, Int.reduceLT, Int.reduceLE, Int.reduceEq, Int.reduceNe, Nat.reduceLeDiff, Nat.reduceLT, Int.reduceNeg, Nat.reducePow, Nat.reduceMod, ByteArray.size, handOk, AO.ren, ren.renL]) (by simp (disch := omega) only [wP, wZ, undef, UInt8.reduceToNat, Nat.reduceOr, Nat.reduceAnd, Nat.reduceXor, Nat.reduceDiv, if_pos, if_neg, aStore, frz, AV.flat, ↓reduceIte, ne_eq, reduceCtorEq, Int.reduceToNat, Nat.reduceEqDiff, Nat.reduceAdd, Nat.reduceSub, Nat.reduceMul, Int.reduceAdd, Int.reduceMul, Int.reduceSub, Int.reduceLT, Int.reduceLE, Int.reduceEq, Int.reduceNe, Nat.reduceLeDiff, Nat.reduceLT, Int.reduceNeg, Nat.reducePow, Nat.reduceMod, ByteArray.size, ren.renL, ren, rho, handed]) ?_
  repeat (first | refine wA ?_ | refine wB ?_ | refine wC rfl ?_ | refine wD rfl ?_ | refine wE ?_ | refine wF (by omega) ?_ | ((first | refine wG ?_ | refine wH ?_ | refine wI ?_ | refine wJ ?_ | refine wK ?_ | refine wL ?_); simp (disch := omega) only [wP, wZ, undef, UInt8.reduceToNat, Nat.reduceOr, Nat.reduceAnd, Nat.reduceXor, Nat.reduceDiv, if_pos, if_neg, aStore, frz, AV.flat, ↓reduceIte, ne_eq, reduceCtorEq, Int.reduceToNat, Nat.reduceEqDiff, Nat.reduceAdd, Nat.reduceSub, Nat.reduceMul, Int.reduceAdd, Int.reduceMul, Int.reduceSub, Int.reduceLT, Int.reduceLE, Int.reduceEq, Int.reduceNe, Nat.reduceLeDiff, Nat.reduceLT, Int.reduceNeg, Nat.reducePow, Nat.reduceMod, ByteArray.size, ren.renL]))
  have h3 : HCon Tryd.prog n_entry_regroup [.own 1000 0 (some 10) 0 0] [.row true []] (.tup []) [(1000, 0, .row true [])] 2 := regroup_h true [] (by simp) (fun _ h => by cases h)
  refine goC_h [(6, 0)] 600 h3 (by simp) (by simp) (by simp (disch := omega) only [wP, wZ, undef, UInt8.reduceToNat, Nat.reduceOr, Nat.reduceAnd, Nat.reduceXor, Nat.reduceDiv, if_pos, if_neg, aStore, frz, AV.flat, ↓reduceIte, ne_eq, reduceCtorEq, Int.reduceToNat, Nat.reduceEqDiff, Nat.reduceAdd, Nat.reduceSub, Nat.reduceMul, Int.reduceAdd, Int.reduceMul, Int.reduceSub, Int.reduceLT, Int.reduceLE, Int.reduceEq, Int.reduceNe, Nat.reduceLeDiff, Nat.reduceLT, Int.reduceNeg, Nat.reducePow, Nat.reduceMod, ByteArray.size, handOk, AO.ren, ren.renL]) (by simp (disch := omega) only [wP, wZ, undef, UInt8.reduceToNat, Nat.reduceOr, Nat.reduceAnd, Nat.reduceXor, Nat.reduceDiv, if_pos, if_neg, aStore, frz, AV.flat, ↓reduceIte, ne_eq, reduceCtorEq, Int.reduceToNat, Nat.reduceEqDiff, Nat.reduceAdd, Nat.reduceSub, Nat.reduceMul, Int.reduceAdd, Int.reduceMul, Int.reduceSub, Int.reduceLT, Int.reduceLE, Int.reduceEq, Int.reduceNe, Nat.reduceLeDiff, Nat.reduceLT, Int.reduceNeg, Nat.reducePow, Nat.reduceMod, ByteArray.size, ren.renL, ren, rho, handed]) ?_
  repeat (first | refine wA ?_ | refine wB ?_ | refine wC rfl ?_ | refine wD rfl ?_ | refine wE ?_ | refine wF (by omega) ?_ | ((first | refine wG ?_ | refine wH ?_ | refine wI ?_ | refine wJ ?_ | refine wK ?_ | refine wL ?_); simp (disch := omega) only [wP, wZ, undef, UInt8.reduceToNat, Nat.reduceOr, Nat.reduceAnd, Nat.reduceXor, Nat.reduceDiv, if_pos, if_neg, aStore, frz, AV.flat, ↓reduceIte, ne_eq, reduceCtorEq, Int.reduceToNat, Nat.reduceEqDiff, Nat.reduceAdd, Nat.reduceSub, Nat.reduceMul, Int.reduceAdd, Int.reduceMul, Int.reduceSub, Int.reduceLT, Int.reduceLE, Int.reduceEq, Int.reduceNe, Nat.reduceLeDiff, Nat.reduceLT, Int.reduceNeg, Nat.reducePow, Nat.reduceMod, ByteArray.size, ren.renL]))
theorem Canon_c [Tabs Tryd.prog] (nl : Bool) (l : List Ent) (hnl : nl = true → l = []) (hl : l.length ≤ 1000000) (hs : ∀ e ∈ l, entS e ∧ entI e) (hn : nlOk l) : Con Tryd.prog n_entry_Canon [.sl nl (some 10) (l.map entV)] (canV nl l) := by
  cases nl
  · exact Canon_f l hl hs hn
  · obtain rfl := hnl rfl
    exact Canon_n
end Go.Proofs.YtbmmdkbinlnogaaDoor.Aw
namespace Go.Proofs.YtbmmdkbinlnogaaDoor.Aw
open Go
set_option linter.unusedSimpArgs false
set_option linter.unusedVariables false
def SubA (x y : AV) : Prop := ∀ G w v, Rd G w x v → Rd G w y v
def SubL (xs ys : List AV) : Prop := ∀ G w vs, RdL G w xs vs → RdL G w ys vs
theorem SubA.refl (x : AV) : SubA x x := fun _ _ _ h => h
theorem SubL.nil : SubL [] [] := fun _ _ _ h => h
theorem SubL.refl (xs : List AV) : SubL xs xs := fun _ _ _ h => h
theorem SubL.cons {x y : AV} {xs ys : List AV} (h : SubA x y) (hs : SubL xs ys) : SubL (x :: xs) (y :: ys) := by
  intro G w vs hr
  simp only [RdL] at hr ⊢
  obtain ⟨v, r, rfl, h1, h2⟩ := hr
  exact ⟨v, r, rfl, h G w v h1, hs G w r h2⟩
theorem SubA.agg {xs ys : List AV} (h : SubL xs ys) : SubA (.agg xs) (.agg ys) := by
  intro G w v hr
  simp only [Rd] at hr ⊢
  obtain ⟨cs, rfl, h1, h2⟩ := hr
  exact ⟨cs, rfl, h G w cs h1, h2⟩
theorem SubA.sl {nl : Bool} {es : Option Nat} {xs ys : List AV} (h : SubL xs ys) : SubA (.sl nl es xs) (.sl nl es ys) := by
  intro G w v hr
  simp only [Rd] at hr ⊢
  obtain ⟨base, len, cap, vs, h1, h2, h3, h4, h5⟩ := hr
  exact ⟨base, len, cap, vs, h1, h2, h3, h G w vs h4, h5⟩
theorem SubA.nil {es : Option Nat} : SubA (.sc (.slice none 0 0)) (.sl true es []) := by
  intro G w v hr
  simp only [Rd] at hr ⊢
  subst hr
  exact ⟨none, 0, 0, [], rfl, rfl, Nat.le_refl _, by simp [RdL], by simp, fun _ => rfl, fun a h => by cases h⟩
theorem SubA.ent {a b c d e f g h i x y : AV} (hx : SubA x y) : SubA (.agg [a, b, c, d, e, f, g, h, i, x]) (.agg [a, b, c, d, e, f, g, h, i, y]) :=
  SubA.agg (.cons (.refl _) (.cons (.refl _) (.cons (.refl _) (.cons (.refl _) (.cons (.refl _) (.cons (.refl _) (.cons (.refl _) (.cons (.refl _) (.cons (.refl _) (.cons hx .nil))))))))))
theorem Con.sub {P : Program} [Tabs P] {f : Nat} {ins ins' : List AV} {out : AV} (h : Con P f ins' out) (hs : SubL ins ins') : Con P f ins out :=
  fun w S vs a b c => h w S vs a b (hs _ _ _ c)
end Go.Proofs.YtbmmdkbinlnogaaDoor.Aw
namespace Go.Proofs.YtbmmdkbinlnogaaDoor.Aw
open Go
set_option linter.unusedSimpArgs false
set_option linter.unusedVariables false
def awA : Ent := ⟨[98], 1, 0, 0, 0, [], [], 0, [], false, [120]⟩
def awB : Ent := ⟨[97], 4, 0, 0, 0, [], [], 0, [98], true, []⟩
theorem aw_chk : chkAll [awA, awB] = (0, 0) := by decide
theorem aw_can : canP [awA, awB] = [⟨[97], 1, 0, 0, 0, [], [], 0, [], false, [120]⟩, ⟨[98], 4, 0, 0, 0, [], [], 0, [97], true, []⟩] := by rfl
def awC : Ent := ⟨[97], 1, 0, 0, 0, [], [], 0, [], true, []⟩
def awD : Ent := ⟨[97, 47, 98], 1, 0, 0, 0, [], [], 0, [], true, []⟩
theorem aw_bad : chkAll [awC, awD] = (1, 9) := by decide
theorem aw_ok1 : ∀ e ∈ [awA, awB], entS e ∧ entI e := by
  intro e he
  simp only [List.mem_cons, List.not_mem_nil, or_false] at he
  rcases he with rfl | rfl <;> exact ⟨⟨by decide, by decide, by decide, by decide, by decide⟩, by simp [awA, awB, entI, inI]⟩
theorem aw_ok2 : ∀ e ∈ [awC, awD], entS e ∧ entI e := by
  intro e he
  simp only [List.mem_cons, List.not_mem_nil, or_false] at he
  rcases he with rfl | rfl <;> exact ⟨⟨by decide, by decide, by decide, by decide, by decide⟩, by simp [awC, awD, entI, inI]⟩
theorem aw_nl1 : nlOk [awA, awB] := by
  intro e he
  simp only [List.mem_cons, List.not_mem_nil, or_false] at he
  rcases he with rfl | rfl <;> simp [awA, awB]
set_option maxHeartbeats 1000000 in
set_option maxRecDepth 100000 in
theorem awake7_c [Tabs Tryd.prog] : Con Tryd.prog n_drayagelaw07_awake [] (boo true) := by
  refine Con.of' mix Tryd.func9 rfl Tryd.ntmps9 e_drayagelaw07_awake r_drayagelaw07_awake (by simp) rfl rfl ?_
  unfold s_drayagelaw07_awake
  repeat (first | refine wA ?_ | refine wB ?_ | refine wC rfl ?_ | refine wD rfl ?_ | refine wE ?_ | refine wF (by omega) ?_ | ((first | refine wG ?_ | refine wH ?_ | refine wI ?_ | refine wJ ?_ | refine wK ?_ | refine wL ?_); simp (disch := omega) only [wP, wZ, undef, UInt8.reduceToNat, Nat.reduceOr, Nat.reduceAnd, Nat.reduceXor, Nat.reduceDiv, if_pos, if_neg, aStore, frz, AV.flat, ↓reduceIte, ne_eq, reduceCtorEq, Int.reduceToNat, Nat.reduceEqDiff, Nat.reduceAdd, Nat.reduceSub, Nat.reduceMul, Int.reduceAdd, Int.reduceMul, Int.reduceSub, Int.reduceLT, Int.reduceLE, Int.reduceEq, Int.reduceNe, Nat.reduceLeDiff, Nat.reduceLT, Int.reduceNeg, Nat.reducePow, Nat.reduceMod, ByteArray.size]))
  refine ⟨⟨⟨_, rfl, rfl⟩, ⟨_, rfl, rfl⟩⟩, ?_⟩
  have c1 : Con Tryd.prog n_entry_Canon [.sl false (some 10) [entV awA, .agg [str [97], int 4, int 0, int 0, int 0, str [], str [], int 0, str [98], .sc (.slice none 0 0)]]] (.tup [.sl false (some 10) ((canP [awA, awB]).map entV), int 0]) := by
    have h := Canon_c false [awA, awB] (by simp) (by simp) aw_ok1 aw_nl1
    rw [canV, aw_chk, if_pos rfl] at h
    exact Con.sub h (.cons (.sl (.cons (.refl _) (.cons (.ent .nil) .nil))) .nil)
  rw [aw_can] at c1
  refine goC_f 10 1 [.sl false (some 10) [entV awA, .agg [str [97], int 4, int 0, int 0, int 0, str [], str [], int 0, str [98], .sc (.slice none 0 0)]]] _ rfl rfl rfl rfl c1 ?_
  repeat (first | refine wA ?_ | refine wB ?_ | refine wC rfl ?_ | refine wD rfl ?_ | refine wE ?_ | refine wF (by omega) ?_ | ((first | refine wG ?_ | refine wH ?_ | refine wI ?_ | refine wJ ?_ | refine wK ?_ | refine wL ?_); simp (disch := omega) only [wP, wZ, undef, UInt8.reduceToNat, Nat.reduceOr, Nat.reduceAnd, Nat.reduceXor, Nat.reduceDiv, if_pos, if_neg, aStore, frz, AV.flat, ↓reduceIte, ne_eq, reduceCtorEq, Int.reduceToNat, Nat.reduceEqDiff, Nat.reduceAdd, Nat.reduceSub, Nat.reduceMul, Int.reduceAdd, Int.reduceMul, Int.reduceSub, Int.reduceLT, Int.reduceLE, Int.reduceEq, Int.reduceNe, Nat.reduceLeDiff, Nat.reduceLT, Int.reduceNeg, Nat.reducePow, Nat.reduceMod, ByteArray.size]))
  refine ⟨⟨⟨_, rfl, rfl⟩, ⟨_, rfl, rfl⟩⟩, ?_⟩
  have c2 : Con Tryd.prog n_entry_CheckAll [.sl false (some 10) [.agg [str [97], int 1, int 0, int 0, int 0, str [], str [], int 0, str [], .sc (.slice none 0 0)], .agg [str [97, 47, 98], int 1, int 0, int 0, int 0, str [], str [], int 0, str [], .sc (.slice none 0 0)]]] (.tup [int 1, int 9]) := by
    have h := CheckAll_c caOk false [awC, awD] (by simp) aw_ok2
    rw [aw_bad] at h
    exact Con.sub h (.cons (.sl (.cons (.ent .nil) (.cons (.ent .nil) .nil))) .nil)
  refine goC_f 17 2 [.sl false (some 10) [.agg [str [97], int 1, int 0, int 0, int 0, str [], str [], int 0, str [], .sc (.slice none 0 0)], .agg [str [97, 47, 98], int 1, int 0, int 0, int 0, str [], str [], int 0, str [], .sc (.slice none 0 0)]]] _ rfl rfl rfl rfl c2 ?_
  iterate 2 (first | refine wA ?_ | refine wB ?_ | refine wC rfl ?_ | refine wD rfl ?_ | refine wE ?_ | refine wF (by omega) ?_ | ((first | refine wG ?_ | refine wH ?_ | refine wI ?_ | refine wJ ?_ | refine wK ?_ | refine wL ?_); simp (disch := omega) only [wP, wZ, undef, UInt8.reduceToNat, Nat.reduceOr, Nat.reduceAnd, Nat.reduceXor, Nat.reduceDiv, if_pos, if_neg, aStore, frz, AV.flat, ↓reduceIte, ne_eq, reduceCtorEq, Int.reduceToNat, Nat.reduceEqDiff, Nat.reduceAdd, Nat.reduceSub, Nat.reduceMul, Int.reduceAdd, Int.reduceMul, Int.reduceSub, Int.reduceLT, Int.reduceLE, Int.reduceEq, Int.reduceNe, Nat.reduceLeDiff, Nat.reduceLT, Int.reduceNeg, Nat.reducePow, Nat.reduceMod, ByteArray.size]))
  refine SWp.le (st' := mk 72 3 [(1, .sl false (some 10) [.agg [str [97], int 1, int 0, int 0, int 0, str [], str [], int 0, str [], .sl false none [u8 120]], .agg [str [98], int 4, int 0, int 0, int 0, str [], str [], int 0, str [97], .sl true none []]]), (2, int 0), (3, int 1), (4, int 9)] []) (le_mk rfl ?_ ?_ ?_) ?_
  · exact Nat.le_refl _
  iterate 2 (case _ => simp (disch := omega) only [wP, wZ, undef, UInt8.reduceToNat, Nat.reduceOr, Nat.reduceAnd, Nat.reduceXor, Nat.reduceDiv, if_pos, if_neg, aStore, frz, AV.flat, ↓reduceIte, ne_eq, reduceCtorEq, Int.reduceToNat, Nat.reduceEqDiff, Nat.reduceAdd, Nat.reduceSub, Nat.reduceMul, Int.reduceAdd, Int.reduceMul, Int.reduceSub, Int.reduceLT, Int.reduceLE, Int.reduceEq, Int.reduceNe, Nat.reduceLeDiff, Nat.reduceLT, Int.reduceNeg, Nat.reducePow, Nat.reduceMod, ByteArray.size, entV, entL, List.map_cons, List.map_nil])
  have hu : unu8 (.sc (.int .u8 120)) = 120 := rfl
  have hu2 : ((120 : UInt8).toNat : Int) = 120 := rfl
  repeat (first | refine wA ?_ | refine wB ?_ | refine wC rfl ?_ | refine wD rfl ?_ | refine wE ?_ | refine wF (by omega) ?_ | ((first | refine wG ?_ | refine wH ?_ | refine wI ?_ | refine wJ ?_ | refine wK ?_ | refine wL ?_); simp (maxSteps := 4000000) (disch := omega) only [wP, wZ, undef, UInt8.reduceToNat, Nat.reduceOr, Nat.reduceAnd, Nat.reduceXor, Nat.reduceDiv, if_pos, if_neg, aStore, frz, AV.flat, ↓reduceIte, ne_eq, reduceCtorEq, Int.reduceToNat, Nat.reduceEqDiff, Nat.reduceAdd, Nat.reduceSub, Nat.reduceMul, Int.reduceAdd, Int.reduceMul, Int.reduceSub, Int.reduceLT, Int.reduceLE, Int.reduceEq, Int.reduceNe, Nat.reduceLeDiff, Nat.reduceLT, Int.reduceNeg, Nat.reducePow, Nat.reduceMod, ByteArray.size, boo, hu, hu2]))
end Go.Proofs.YtbmmdkbinlnogaaDoor.Aw
namespace Go.Proofs.YtbmmdkbinlnogaaDoor.Aw
open Go
set_option linter.unusedSimpArgs false
set_option linter.unusedVariables false
abbrev EnT := List UInt8 × Int × Int × Int × Int × List UInt8 × List UInt8 × Int × List UInt8 × (Bool × List UInt8) × Unit
def enOf (a : EnT) : Ent := ⟨a.1, a.2.1, a.2.2.1, a.2.2.2.1, a.2.2.2.2.1, a.2.2.2.2.2.1, a.2.2.2.2.2.2.1, a.2.2.2.2.2.2.2.1, a.2.2.2.2.2.2.2.2.1, a.2.2.2.2.2.2.2.2.2.1.1, a.2.2.2.2.2.2.2.2.2.1.2⟩
abbrev iR64 (n : Int) : Prop := IntKind.i64.min ≤ n ∧ n ≤ IntKind.i64.max
abbrev enR (a : EnT) : Prop := a.1.length ≤ maxLen ∧ iR64 a.2.1 ∧ iR64 a.2.2.1 ∧ iR64 a.2.2.2.1 ∧ iR64 a.2.2.2.2.1 ∧ a.2.2.2.2.2.1.length ≤ maxLen ∧ a.2.2.2.2.2.2.1.length ≤ maxLen ∧ iR64 a.2.2.2.2.2.2.2.1 ∧ a.2.2.2.2.2.2.2.2.1.length ≤ maxLen ∧ (a.2.2.2.2.2.2.2.2.2.1.2.length ≤ maxLen ∧ (a.2.2.2.2.2.2.2.2.2.1.1 = true → a.2.2.2.2.2.2.2.2.2.1.2 = []) ∧ ∀ c ∈ a.2.2.2.2.2.2.2.2.2.1.2, True) ∧ True
theorem enR_B {a : EnT} (h : enR a) : entB (enOf a) ∧ entI (enOf a) ∧ ((enOf a).nl = true → (enOf a).data = []) := by
  obtain ⟨h1, h2, h3, h4, h5, h6, h7, h8, h9, ⟨h10, h11, -⟩, -⟩ := h
  have e : maxLen ≤ 9223372036854775807 := by decide
  refine ⟨⟨Nat.le_trans h1 e, Nat.le_trans h9 e, Nat.le_trans h6 e, Nat.le_trans h7 e, Nat.le_trans h10 e⟩, ⟨?_, ?_, ?_, ?_⟩, h11⟩
  · exact ⟨h3.1, h3.2⟩
  · exact ⟨h4.1, h4.2⟩
  · exact ⟨h5.1, h5.2⟩
  · exact ⟨h8.1, h8.2⟩
theorem light_S {l : List Ent} {c m : Nat} (hm : m ≤ 100000) (h : lightV l c m = true) : l.length ≤ c ∧ ∀ e ∈ l, entS e := by
  rw [lightV, Bool.and_eq_true, decide_eq_true_eq, decide_eq_true_eq] at h
  refine ⟨h.1, fun e he => ?_⟩
  obtain ⟨h1, h2, h3, h4, h5⟩ := wgt_le (lrun_all h.2 e he)
  exact ⟨by omega, by omega, by omega, by omega, by omega⟩
theorem map_enOf {l : List EnT} : (l.map fun a => entV (enOf a)) = (l.map enOf).map entV := by simp
theorem enR_all {l : List EnT} (h : ∀ a ∈ l, enR a) : (∀ e ∈ l.map enOf, entB e) ∧ (∀ e ∈ l.map enOf, entI e) ∧ nlOk (l.map enOf) := by
  refine ⟨fun e he => ?_, fun e he => ?_, fun e he => ?_⟩
  all_goals
    obtain ⟨a, ha, rfl⟩ := List.mem_map.1 he
    have := enR_B (h a ha)
  · exact this.1
  · exact this.2.1
  · exact this.2.2
end Go.Proofs.YtbmmdkbinlnogaaDoor.Aw
namespace Go.Proofs.YtbmmdkbinlnogaaDoor.Aw
open Go
set_option linter.unusedSimpArgs false
set_option linter.unusedVariables false
theorem alike_self {e : Ent} : alikeB e e = true := by simp [alikeB]
theorem samB_self {e : Ent} : samB e e = true := by simp [samB, alike_self]
theorem sameL_of : ∀ {l r : List Ent}, l.length = r.length → (∀ i, i < l.length → samB (gE l i) (gE r i) = true) → sameL l r = true
  | [], [], _, _ => rfl
  | [], _ :: _, h, _ => by simp at h
  | _ :: _, [], h, _ => by simp at h
  | a :: l, b :: r, h, H => by
    have h0 := H 0 (by simp)
    have ih := sameL_of (l := l) (r := r) (by simpa using h) (fun i hi => by have := H (i + 1) (by simpa using hi); simpa [gE] using this)
    rw [sameL, ih, Bool.and_true]
    simpa [gE] using h0
theorem can_same {s : List Ent} (hG : Good s) : sameL (regL s s.length).1 (docL s s.length) = true := by
  have hp := invP_all hG s.length (Nat.le_refl _)
  have hd := invD_all hG s.length (Nat.le_refl _)
  refine sameL_of (by rw [hp.len, hd.len]) fun j hj => ?_
  rw [hp.len] at hj
  cases hg : grp (gE s j) with
  | none => rw [hp.no j hg, hd.no j hg]; exact samB_self
  | some g =>
    obtain ⟨m, hm, hf⟩ := fstG_ex j hj hg
    by_cases km : (gE s m).kind = 1
    · have e2 := hd.h1 g m hf hf.1 km j hg
      rw [e2]
      by_cases c : m = j
      · subst c
        rw [hp.fs2 g m hf hf.1 (fun f h1 h2 h3 h4 => by have := file_uni hG hf.1 h2 hf.2.1 h3 km h4; omega)]
        exact samB_self
      · rw [hp.non j hj g m hf hg (by omega)]
        have pm : (gE s m).path = g := by have := hf.2.1; rw [grp_reg km] at this; exact Option.some.inj this
        rcases grp_kind hg with ⟨kj, _⟩ | ⟨kj, lj⟩
        · exact absurd (file_uni hG hf.1 hj hf.2.1 hg km kj) c
        · have hda := hG.hard j hj kj
          simp only [samB, asHard, alikeB, kj, lj, pm, hda, decide_true, Bool.and_self]
    · have km4 : (gE s m).kind = 4 := by
        rcases grp_kind hf.2.1 with ⟨a, _⟩ | ⟨a, _⟩
        · exact absurd a km
        · exact a
      obtain ⟨f, hfl, kf, pf⟩ := hG.file m hf.1 km4
      have lm : (gE s m).link = g := by have := hf.2.1; rw [grp_hard km4] at this; exact Option.some.inj this
      have hgf : grp (gE s f) = some g := by rw [grp_reg kf, pf, lm]
      have hmf : m < f := by
        rcases Nat.lt_trichotomy f m with c | c | c
        · exact absurd hgf (hf.2.2 f c)
        · subst c; exact absurd kf km
        · exact c
      obtain ⟨q1, q2, q3⟩ := hd.h4 g m hf hf.1 km f hfl hgf kf
      by_cases c : j = m
      · subst c
        rw [hp.fs1 g j hf hf.1 f hmf hfl hgf kf, q1]
        exact samB_self
      · rw [hp.non j hj g m hf hg (by omega)]
        by_cases d : j = f
        · subst d
          rw [q2]
          exact samB_self
        · rw [q3 j hj c d hg]
          rcases grp_kind hg with ⟨kj, _⟩ | ⟨kj, lj⟩
          · exact absurd (file_uni hG hj hfl hg hgf kj kf) d
          · have hda := hG.hard j hj kj
            simp only [samB, asHard, alikeB, kj, hda, decide_true, Bool.and_self]
theorem chk_arg {e : Ent} (h : chk e = 0) : pathOk e.path = true ∧ kindOk e = true ∧ numFit e = true ∧ (ownOk e.owner && ownOk e.group) = true ∧ linkOk e = true ∧ argOk e = true ∧ e.data.length ≤ 1048576 := by
  unfold chk at h
  by_cases c1 : pathOk e.path = true
  case neg => rw [if_neg c1] at h; exact absurd h (by decide)
  rw [if_pos c1] at h
  by_cases c2 : kindOk e = true
  case neg => rw [if_neg c2] at h; exact absurd h (by decide)
  rw [if_pos c2] at h
  by_cases c3 : numFit e = true
  case neg => rw [if_neg c3] at h; exact absurd h (by decide)
  rw [if_pos c3] at h
  by_cases c4 : (ownOk e.owner && ownOk e.group) = true
  case neg => rw [if_neg c4] at h; exact absurd h (by decide)
  rw [if_pos c4] at h
  by_cases c5 : linkOk e = true
  case neg => rw [if_neg c5] at h; exact absurd h (by decide)
  rw [if_pos c5] at h
  by_cases c6 : argOk e = true
  case neg => rw [if_neg c6] at h; exact absurd h (by decide)
  rw [if_pos c6] at h
  by_cases c7 : e.data.length ≤ 1048576
  case neg => rw [if_neg c7] at h; exact absurd h (by decide)
  exact ⟨c1, c2, c3, c4, c5, c6, c7⟩
theorem bad_chk {M : List Ent} {e : Ent} (h : badE M e = 0) : chk e = 0 := by
  rw [badE] at h
  by_cases c : chk e = 0
  · exact c
  · rw [if_neg c] at h
    exact absurd h c
theorem fileAt_some {p : List UInt8} {l : List Ent} {f : Ent} (h : fileAt p l = some f) : f ∈ l ∧ f.path = p := by
  unfold fileAt at h
  by_cases c : posOf p l < 0
  · rw [if_pos c] at h; cases h
  · rw [if_neg c] at h
    have h2 := posOf_findE (p := p) (l := l)
    have : fileAt p l = some f := by unfold fileAt; rw [if_neg c]; exact h
    rw [h2.2] at this
    exact ⟨findE_mem this, findE_path this⟩
theorem bad_file {M : List Ent} {e : Ent} (h : badE M e = 0) (hk : e.kind = 4) : ∃ f ∈ M, f.kind = 1 ∧ f.path = e.link := by
  have hc := bad_chk h
  rw [badE, if_pos hc] at h
  by_cases c : posOf e.path M < 0
  case neg => rw [if_neg c] at h; exact absurd h (by decide)
  rw [if_pos c, if_pos hk] at h
  cases hf : fileAt e.link M with
  | none => rw [hf] at h; exact absurd h (show ¬ (15 : Int) = 0 by decide)
  | some f =>
    rw [hf] at h
    obtain ⟨h1, h2⟩ := fileAt_some hf
    by_cases d : f.kind = 1
    · exact ⟨f, h1, d, h2⟩
    · simp only [if_neg d] at h
      exact absurd h (show ¬ (15 : Int) = 0 by decide)
theorem good_sort {l : List Ent} (h : (chkAll l).2 = 0) : Good (sortE l) := by
  have hnd := ok_nodup h
  obtain ⟨-, hb⟩ := chkAll_ok.1 h
  have hmem : ∀ i, i < (sortE l).length → ∃ k, ∃ hk : k < l.length, gE (sortE l) i = l[k] := fun i hi => by
    have h1 : gE (sortE l) i ∈ l := mem_sortE.1 (getD_mem hi)
    obtain ⟨k, hk, e⟩ := List.mem_iff_getElem.1 h1
    exact ⟨k, hk, e.symm⟩
  have hs := sortE_srt hnd
  refine ⟨fun i j hi hj e => ?_, fun i hi hk => ?_, fun i hi hk => ?_, fun i hi hk => ?_⟩
  · have g : ∀ i (hi : i < (sortE l).length), gE (sortE l) i = (sortE l)[i] := fun i hi => by simp [gE, List.getD, List.getElem?_eq_getElem hi]
    rw [g i hi, g j hj] at e
    have hp := List.pairwise_iff_getElem.1 hs
    rcases Nat.lt_trichotomy i j with c | c | c
    · have := hp i j hi hj c
      rw [e, ltB_irrefl] at this
      cases this
    · exact c
    · have := hp j i hj hi c
      rw [e, ltB_irrefl] at this
      cases this
  · obtain ⟨k, hk', e⟩ := hmem i hi
    rw [e] at hk ⊢
    have := (chk_arg (bad_chk (hb k hk'))).2.2.2.2.2.1
    rw [argOk, hk] at this
    simpa using this
  · obtain ⟨k, hk', e⟩ := hmem i hi
    rw [e] at hk ⊢
    have := (chk_arg (bad_chk (hb k hk'))).2.2.2.2.2.1
    rw [argOk, hk] at this
    simpa using this
  · obtain ⟨k, hk', e⟩ := hmem i hi
    rw [e] at hk ⊢
    obtain ⟨f, h1, h2, h3⟩ := bad_file (hb k hk') hk
    have h4 : f ∈ sortE l := mem_sortE.2 (List.mem_of_mem_take h1)
    obtain ⟨q, hq, eq⟩ := List.mem_iff_getElem.1 h4
    refine ⟨q, hq, ?_⟩
    have : gE (sortE l) q = f := by simp [gE, List.getD, List.getElem?_eq_getElem hq, eq]
    rw [this]
    exact ⟨h2, h3⟩
theorem canon_same {l : List Ent} (h : (chkAll l).2 = 0) : sameL (canP l) (canD l) = true := by
  have := can_same (good_sort h)
  rw [sortE_length] at this
  exact this
structure Cl (Q : Ent → Prop) : Prop where
  reg : ∀ e f, Q e → Q f → Q (asReg e f)
  hard : ∀ e f, Q e → Q f → Q (asHard e f.path)
  link : ∀ e f, Q e → Q f → Q { e with link := f.path }
theorem all_set {Q : Ent → Prop} {L : List Ent} {i : Nat} {e : Ent} (hL : ∀ e ∈ L, Q e) (he : Q e) : ∀ x ∈ L.set i e, Q x := by
  intro x h
  rcases List.mem_or_eq_of_mem_set h with h | rfl
  · exact hL x h
  · exact he
theorem regS_all {Q : Ent → Prop} (hQ : Cl Q) {L : List Ent} {F : Fi} {i : Nat} (hL : ∀ e ∈ L, Q e) (hi : i < L.length) (hF : ∀ p ∈ F, p.2 < L.length) : ∀ e ∈ (regS L F i).1, Q e := by
  unfold regS
  have he := hL _ (getD_mem hi)
  split
  · split
    · exact hL
    · rename_i m hm
      have hm' := hL _ (getD_mem (hF _ (findF_mem hm)))
      refine all_set ?_ (hQ.hard _ _ he hm')
      split
      · exact all_set hL (hQ.reg _ _ hm' he)
      · exact hL
  · exact hL
theorem regL_all {Q : Ent → Prop} (hQ : Cl Q) {l : List Ent} (h : ∀ e ∈ l, Q e) : ∀ k, k ≤ l.length → ∀ e ∈ (regL l k).1, Q e
  | 0, _ => h
  | k + 1, hk => by
    refine regS_all hQ (regL_all hQ h k (by omega)) (by rw [regL_len]; omega) fun p hp => ?_
    have := regL_lt k p hp
    rw [regL_len]
    omega
theorem canP_all {Q : Ent → Prop} (hQ : Cl Q) {l : List Ent} (h : ∀ e ∈ l, Q e) : ∀ e ∈ canP l, Q e :=
  regL_all hQ (fun e he => h e (mem_sortE.1 he)) l.length (by rw [sortE_length]; exact Nat.le_refl _)
theorem same_data {l r : List Ent} (h : sameL l r = true) : ∀ {n : Nat}, (∀ e ∈ l, e.data.length ≤ n) → ∀ e ∈ r, e.data.length ≤ n := by
  induction l generalizing r with
  | nil =>
    cases r with
    | nil => intro n _ e he; cases he
    | cons b r => simp [sameL] at h
  | cons a l ih =>
    cases r with
    | nil => simp [sameL] at h
    | cons b r =>
      intro n hl e he
      rw [sameL, Bool.and_eq_true] at h
      rcases List.mem_cons.1 he with rfl | he
      · have := h.1
        simp only [samB, Bool.and_eq_true, decide_eq_true_eq] at this
        rw [← this.2.2.2.2]
        exact hl a (by simp)
      · exact ih h.2 (fun e he => hl e (by simp [he])) e he
theorem clS : Cl fun e => entS e ∧ entI e where
  reg e f he hf := ⟨⟨he.1.1, he.1.2.1, he.1.2.2.1, by simp [asReg], hf.1.2.2.2.2⟩, he.2⟩
  hard e f he hf := ⟨⟨he.1.1, he.1.2.1, he.1.2.2.1, hf.1.1, by simp [asHard]⟩, he.2⟩
  link e f he hf := ⟨⟨he.1.1, he.1.2.1, he.1.2.2.1, hf.1.1, he.1.2.2.2.2⟩, he.2⟩
set_option maxHeartbeats 4000000 in
set_option maxRecDepth 100000 in
theorem EntryCanon_law [Tabs Tryd.prog] (p : Bool × List EnT) (hp : p.2.length ≤ maxLen ∧ (p.1 = true → p.2 = []) ∧ ∀ a ∈ p.2, enR a) :
    Con Tryd.prog n_drayagelaw07_EntryCanon [.sl p.1 (some 10) (p.2.map fun a => entV (enOf a))] (boo true) := by
  obtain ⟨nl, q⟩ := p
  simp only at hp ⊢
  obtain ⟨hb, hi, hn⟩ := enR_all hp.2.2
  have hql : q.length ≤ 9223372036854775807 := Nat.le_trans hp.1 (by decide)
  rw [map_enOf]
  obtain ⟨l, hl⟩ : ∃ l, l = q.map enOf := ⟨_, rfl⟩
  have hll : l.length ≤ 9223372036854775807 := by rw [hl, List.length_map]; exact hql
  have hnl : nl = true → l = [] := fun h => by rw [hl, hp.2.1 h]; rfl
  rw [← hl] at hb hi hn ⊢
  clear hl hp
  refine Con.of' mix Tryd.func6 rfl Tryd.ntmps6 e_drayagelaw07_EntryCanon r_drayagelaw07_EntryCanon (by simp) (by simp only [AV.free.freeL, AV.free, free_ents, Bool.and_self]) rfl ?_
  unfold s_drayagelaw07_EntryCanon
  repeat (first | refine wA ?_ | refine wB ?_ | refine wC rfl ?_ | refine wD rfl ?_ | refine wE ?_ | refine wF (by omega) ?_ | ((first | refine wG ?_ | refine wH ?_ | refine wI ?_ | refine wJ ?_ | refine wK ?_ | refine wL ?_); simp (disch := omega) only [wP, wZ, undef, UInt8.reduceToNat, Nat.reduceOr, Nat.reduceAnd, Nat.reduceXor, Nat.reduceDiv, if_pos, if_neg, aStore, frz, AV.flat, ↓reduceIte, ne_eq, reduceCtorEq, Int.reduceToNat, Nat.reduceEqDiff, Nat.reduceAdd, Nat.reduceSub, Nat.reduceMul, Int.reduceAdd, Int.reduceMul, Int.reduceSub, Int.reduceLT, Int.reduceLE, Int.reduceEq, Int.reduceNe, Nat.reduceLeDiff, Nat.reduceLT, Int.reduceNeg, Nat.reducePow, Nat.reduceMod, ByteArray.size]))
  refine goC_p _ (.inl ⟨rfl, awake7_c⟩) ?_
  repeat (first | refine wA ?_ | refine wB ?_ | refine wC rfl ?_ | refine wD rfl ?_ | refine wE ?_ | refine wF (by omega) ?_ | ((first | refine wG ?_ | refine wH ?_ | refine wI ?_ | refine wJ ?_ | refine wK ?_ | refine wL ?_); simp (disch := omega) only [wP, wZ, undef, UInt8.reduceToNat, Nat.reduceOr, Nat.reduceAnd, Nat.reduceXor, Nat.reduceDiv, if_pos, if_neg, aStore, frz, AV.flat, ↓reduceIte, ne_eq, reduceCtorEq, Int.reduceToNat, Nat.reduceEqDiff, Nat.reduceAdd, Nat.reduceSub, Nat.reduceMul, Int.reduceAdd, Int.reduceMul, Int.reduceSub, Int.reduceLT, Int.reduceLE, Int.reduceEq, Int.reduceNe, Nat.reduceLeDiff, Nat.reduceLT, Int.reduceNeg, Nat.reducePow, Nat.reduceMod, ByteArray.size, boo]))
  have hfl : AV.free.freeL [.sl nl (some 10) (l.map entV)] = true := by simp only [AV.free.freeL, AV.free, free_ents, Bool.and_self]
  refine goC_p _ (.inl ⟨by simp only [AV.free.freeL, AV.free, free_ents, Bool.and_self], ref_Light_c nl l hll hb 60 5000 (by decide) (by decide)⟩) ?_
  cases c1 : lightV l 60 5000
  · repeat (first | refine wA ?_ | refine wB ?_ | refine wC rfl ?_ | refine wD rfl ?_ | refine wE ?_ | refine wF (by omega) ?_ | ((first | refine wG ?_ | refine wH ?_ | refine wI ?_ | refine wJ ?_ | refine wK ?_ | refine wL ?_); simp (disch := omega) only [wP, wZ, undef, UInt8.reduceToNat, Nat.reduceOr, Nat.reduceAnd, Nat.reduceXor, Nat.reduceDiv, if_pos, if_neg, aStore, frz, AV.flat, ↓reduceIte, ne_eq, reduceCtorEq, Int.reduceToNat, Nat.reduceEqDiff, Nat.reduceAdd, Nat.reduceSub, Nat.reduceMul, Int.reduceAdd, Int.reduceMul, Int.reduceSub, Int.reduceLT, Int.reduceLE, Int.reduceEq, Int.reduceNe, Nat.reduceLeDiff, Nat.reduceLT, Int.reduceNeg, Nat.reducePow, Nat.reduceMod, ByteArray.size, boo]))
    done
  obtain ⟨l1, l2⟩ := light_S (by decide) c1
  repeat (first | refine wA ?_ | refine wB ?_ | refine wC rfl ?_ | refine wD rfl ?_ | refine wE ?_ | refine wF (by omega) ?_ | ((first | refine wG ?_ | refine wH ?_ | refine wI ?_ | refine wJ ?_ | refine wK ?_ | refine wL ?_); simp (disch := omega) only [wP, wZ, undef, UInt8.reduceToNat, Nat.reduceOr, Nat.reduceAnd, Nat.reduceXor, Nat.reduceDiv, if_pos, if_neg, aStore, frz, AV.flat, ↓reduceIte, ne_eq, reduceCtorEq, Int.reduceToNat, Nat.reduceEqDiff, Nat.reduceAdd, Nat.reduceSub, Nat.reduceMul, Int.reduceAdd, Int.reduceMul, Int.reduceSub, Int.reduceLT, Int.reduceLE, Int.reduceEq, Int.reduceNe, Nat.reduceLeDiff, Nat.reduceLT, Int.reduceNeg, Nat.reducePow, Nat.reduceMod, ByteArray.size, boo]))
  have hSI : ∀ e ∈ l, entS e ∧ entI e := fun e he => ⟨l2 e he, hi e he⟩
  refine goC_p _ (.inl ⟨hfl, Canon_c nl l hnl (by omega) hSI hn⟩) ?_
  have r2 := ref_Canon_c nl l (by omega) l2
  by_cases h0 : (chkAll l).2 = 0
  · rw [canW, if_pos h0] at r2
    rw [canV, if_pos h0]
    have hsame := canon_same h0
    have hPd : ∀ e ∈ canP l, e.data.length ≤ 10000000 := fun e he => (canP_all clS hSI e he).1.2.2.2.2
    have hDd := same_data hsame hPd
    have hDl : (canD l).length = l.length := by rw [canD, docL_len, sortE_length]
    have r3 := ref_Same_c nl (nl0 l.length) (canP l) (canD l) (by rw [canP_len]; omega) (by rw [hDl]; omega) hPd hDd
    rw [hsame] at r3
    repeat (first | refine wA ?_ | refine wB ?_ | refine wC rfl ?_ | refine wD rfl ?_ | refine wE ?_ | refine wF (by omega) ?_ | ((first | refine wG ?_ | refine wH ?_ | refine wI ?_ | refine wJ ?_ | refine wK ?_ | refine wL ?_); simp (disch := omega) only [wP, wZ, undef, UInt8.reduceToNat, Nat.reduceOr, Nat.reduceAnd, Nat.reduceXor, Nat.reduceDiv, if_pos, if_neg, aStore, frz, AV.flat, ↓reduceIte, ne_eq, reduceCtorEq, Int.reduceToNat, Nat.reduceEqDiff, Nat.reduceAdd, Nat.reduceSub, Nat.reduceMul, Int.reduceAdd, Int.reduceMul, Int.reduceSub, Int.reduceLT, Int.reduceLE, Int.reduceEq, Int.reduceNe, Nat.reduceLeDiff, Nat.reduceLT, Int.reduceNeg, Nat.reducePow, Nat.reduceMod, ByteArray.size]))
    refine goC_p _ (.inl ⟨hfl, r2⟩) ?_
    repeat (first | refine wA ?_ | refine wB ?_ | refine wC rfl ?_ | refine wD rfl ?_ | refine wE ?_ | refine wF (by omega) ?_ | ((first | refine wG ?_ | refine wH ?_ | refine wI ?_ | refine wJ ?_ | refine wK ?_ | refine wL ?_); simp (disch := omega) only [wP, wZ, undef, UInt8.reduceToNat, Nat.reduceOr, Nat.reduceAnd, Nat.reduceXor, Nat.reduceDiv, if_pos, if_neg, aStore, frz, AV.flat, ↓reduceIte, ne_eq, reduceCtorEq, Int.reduceToNat, Nat.reduceEqDiff, Nat.reduceAdd, Nat.reduceSub, Nat.reduceMul, Int.reduceAdd, Int.reduceMul, Int.reduceSub, Int.reduceLT, Int.reduceLE, Int.reduceEq, Int.reduceNe, Nat.reduceLeDiff, Nat.reduceLT, Int.reduceNeg, Nat.reducePow, Nat.reduceMod, ByteArray.size, boo]))
    refine goC_p _ (.inl ⟨by simp only [AV.free.freeL, AV.free, free_ents, Bool.and_self], r3⟩) ?_
    repeat (first | refine wA ?_ | refine wB ?_ | refine wC rfl ?_ | refine wD rfl ?_ | refine wE ?_ | refine wF (by omega) ?_ | ((first | refine wG ?_ | refine wH ?_ | refine wI ?_ | refine wJ ?_ | refine wK ?_ | refine wL ?_); simp (disch := omega) only [wP, wZ, undef, UInt8.reduceToNat, Nat.reduceOr, Nat.reduceAnd, Nat.reduceXor, Nat.reduceDiv, if_pos, if_neg, aStore, frz, AV.flat, ↓reduceIte, ne_eq, reduceCtorEq, Int.reduceToNat, Nat.reduceEqDiff, Nat.reduceAdd, Nat.reduceSub, Nat.reduceMul, Int.reduceAdd, Int.reduceMul, Int.reduceSub, Int.reduceLT, Int.reduceLE, Int.reduceEq, Int.reduceNe, Nat.reduceLeDiff, Nat.reduceLT, Int.reduceNeg, Nat.reducePow, Nat.reduceMod, ByteArray.size, boo]))
  · rw [canW, if_neg h0] at r2
    rw [canV, if_neg h0]
    obtain ⟨C, hC⟩ : ∃ C, C = (chkAll l).2 := ⟨_, rfl⟩
    rw [← hC] at r2 ⊢
    have r3 := Con.sub (ins := [.sc (.slice none 0 0), .sc (.slice none 0 0)]) (ref_Same_c true true [] [] (by simp) (by simp) (by simp) (by simp)) (.cons .nil (.cons .nil .nil))
    repeat (first | refine wA ?_ | refine wB ?_ | refine wC rfl ?_ | refine wD rfl ?_ | refine wE ?_ | refine wF (by omega) ?_ | ((first | refine wG ?_ | refine wH ?_ | refine wI ?_ | refine wJ ?_ | refine wK ?_ | refine wL ?_); simp (disch := omega) only [wP, wZ, undef, UInt8.reduceToNat, Nat.reduceOr, Nat.reduceAnd, Nat.reduceXor, Nat.reduceDiv, if_pos, if_neg, aStore, frz, AV.flat, ↓reduceIte, ne_eq, reduceCtorEq, Int.reduceToNat, Nat.reduceEqDiff, Nat.reduceAdd, Nat.reduceSub, Nat.reduceMul, Int.reduceAdd, Int.reduceMul, Int.reduceSub, Int.reduceLT, Int.reduceLE, Int.reduceEq, Int.reduceNe, Nat.reduceLeDiff, Nat.reduceLT, Int.reduceNeg, Nat.reducePow, Nat.reduceMod, ByteArray.size]))
    refine goC_p _ (.inl ⟨hfl, r2⟩) ?_
    repeat (first | refine wA ?_ | refine wB ?_ | refine wC rfl ?_ | refine wD rfl ?_ | refine wE ?_ | refine wF (by omega) ?_ | ((first | refine wG ?_ | refine wH ?_ | refine wI ?_ | refine wJ ?_ | refine wK ?_ | refine wL ?_); simp (disch := omega) only [wP, wZ, undef, UInt8.reduceToNat, Nat.reduceOr, Nat.reduceAnd, Nat.reduceXor, Nat.reduceDiv, if_pos, if_neg, aStore, frz, AV.flat, ↓reduceIte, ne_eq, reduceCtorEq, Int.reduceToNat, Nat.reduceEqDiff, Nat.reduceAdd, Nat.reduceSub, Nat.reduceMul, Int.reduceAdd, Int.reduceMul, Int.reduceSub, Int.reduceLT, Int.reduceLE, Int.reduceEq, Int.reduceNe, Nat.reduceLeDiff, Nat.reduceLT, Int.reduceNeg, Nat.reducePow, Nat.reduceMod, ByteArray.size, boo, eq_self_iff_true, decide_true]))
    refine goC_p _ (.inl ⟨rfl, r3⟩) ?_
    have e : sameL [] [] = true := rfl
    repeat (first | refine wA ?_ | refine wB ?_ | refine wC rfl ?_ | refine wD rfl ?_ | refine wE ?_ | refine wF (by omega) ?_ | ((first | refine wG ?_ | refine wH ?_ | refine wI ?_ | refine wJ ?_ | refine wK ?_ | refine wL ?_); simp (disch := omega) only [wP, wZ, undef, UInt8.reduceToNat, Nat.reduceOr, Nat.reduceAnd, Nat.reduceXor, Nat.reduceDiv, if_pos, if_neg, aStore, frz, AV.flat, ↓reduceIte, ne_eq, reduceCtorEq, Int.reduceToNat, Nat.reduceEqDiff, Nat.reduceAdd, Nat.reduceSub, Nat.reduceMul, Int.reduceAdd, Int.reduceMul, Int.reduceSub, Int.reduceLT, Int.reduceLE, Int.reduceEq, Int.reduceNe, Nat.reduceLeDiff, Nat.reduceLT, Int.reduceNeg, Nat.reducePow, Nat.reduceMod, ByteArray.size, boo, e]))
end Go.Proofs.YtbmmdkbinlnogaaDoor.Aw
