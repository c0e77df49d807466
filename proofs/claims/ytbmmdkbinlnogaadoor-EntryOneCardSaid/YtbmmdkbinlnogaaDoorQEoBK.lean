/- Parts of the proofs of Eo. -/
import Derived.Test.YtbmmdkbinlnogaaDoorQEoBJ
import Derived.Test.YtbmmdkbinlnogaaDoorQEoAZ
namespace Go.Proofs.YtbmmdkbinlnogaaDoor.Aw
open Go
set_option linter.unusedSimpArgs false
set_option linter.unusedVariables false
theorem posOf_findE {p : List UInt8} : ∀ {l : List Ent}, (posOf p l < 0 ↔ findE p l = none) ∧ fileAt p l = findE p l
  | [] => ⟨by simp [posOf, findE], by simp [fileAt, posOf, findE]⟩
  | e :: l => by
    have ih := posOf_findE (p := p) (l := l)
    have hg := posOf_ge (p := p) (l := l)
    by_cases h : e.path = p
    · have h' : p = e.path := h.symm
      refine ⟨?_, ?_⟩
      · rw [posOf, findE, if_pos h, if_pos h']
        simp
      · rw [fileAt, posOf, findE, if_pos h, if_pos h', if_neg (by omega)]
        rfl
    · have h' : ¬ p = e.path := fun x => h x.symm
      by_cases c : posOf p l < 0
      · have c2 := ih.1.1 c
        refine ⟨?_, ?_⟩
        · rw [posOf, findE, if_neg h, if_neg h', if_pos c, c2]
          simp
        · rw [fileAt, posOf, findE, if_neg h, if_neg h', if_pos c, c2]
          rfl
      · refine ⟨?_, ?_⟩
        · rw [posOf, findE, if_neg h, if_neg h', if_neg c]
          constructor
          · intro x; omega
          · intro x; exact absurd (ih.1.2 x) c
        · have i2 := ih.2
          rw [fileAt, if_neg c] at i2
          rw [fileAt, posOf, findE, if_neg h, if_neg h', if_neg c, if_neg (by omega), ← i2]
          rw [show (posOf p l + 1).toNat = (posOf p l).toNat + 1 by omega]
          rfl
theorem mem_upsN {s q : List UInt8} : ∀ {n : Nat}, q ∈ upsN s n ↔ ∃ m, m < n ∧ s.getD m 0 = 47 ∧ q = s.take m
  | 0 => by simp [upsN]
  | n + 1 => by
    rw [upsN]
    by_cases h : s.getD n 0 = 47
    · rw [if_pos h, List.mem_cons, mem_upsN]
      constructor
      · rintro (rfl | ⟨m, h1, h2, h3⟩)
        · exact ⟨n, by omega, h, rfl⟩
        · exact ⟨m, by omega, h2, h3⟩
      · rintro ⟨m, h1, h2, h3⟩
        by_cases e : m = n
        · subst e; exact .inl h3
        · exact .inr ⟨m, by omega, h2, h3⟩
    · rw [if_neg h, mem_upsN]
      constructor
      · rintro ⟨m, h1, h2, h3⟩
        exact ⟨m, by omega, h2, h3⟩
      · rintro ⟨m, h1, h2, h3⟩
        by_cases e : m = n
        · subst e; exact absurd h2 h
        · exact ⟨m, by omega, h2, h3⟩
theorem abv_ups {a s : List UInt8} : abv a s = true ↔ a ∈ upsN s s.length := by
  rw [mem_upsN]
  simp only [abv, Bool.and_eq_true, decide_eq_true_eq]
  constructor
  · rintro ⟨h1, h2, h3⟩
    exact ⟨a.length, h1, h3, h2.symm⟩
  · rintro ⟨m, h1, h2, rfl⟩
    have : (s.take m).length = m := by rw [List.length_take]; omega
    rw [this]
    exact ⟨h1, rfl, h2⟩
def oneEach (M : List Ent) : Prop := ∀ x ∈ M, findE x.path M = some x
theorem findE_path {p : List UInt8} : ∀ {M : List Ent} {x : Ent}, findE p M = some x → x.path = p
  | y :: M, x, h => by
    rw [findE] at h
    split at h
    · rename_i c
      cases h
      exact c.symm
    · exact findE_path h
theorem under_any {M : List Ent} (h : oneEach M) {s : List UInt8} : underB M s = M.any fun x => abv x.path s && !decide (x.kind = 2) := by
  rw [Bool.eq_iff_iff, underB, List.any_eq_true, List.any_eq_true]
  constructor
  · rintro ⟨p, hp, ho⟩
    rw [offB] at ho
    cases hc : findE p M with
    | none => rw [hc] at ho; cases ho
    | some x =>
      rw [hc] at ho
      have hx := findE_path hc
      refine ⟨x, findE_mem hc, ?_⟩
      rw [hx, abv_ups.2 hp]
      exact ho
  · rintro ⟨x, hx, ho⟩
    rw [Bool.and_eq_true] at ho
    refine ⟨x.path, abv_ups.1 ho.1, ?_⟩
    rw [offB, h x hx]
    exact ho.2
def upsAll (M : List Ent) : List (List UInt8) := M.foldl (fun V x => addU V (upsN x.path x.path.length)) []
theorem mem_addU {q : List UInt8} : ∀ {l U : List (List UInt8)}, q ∈ addU U l ↔ q ∈ U ∨ q ∈ l
  | [], U => by simp [addU]
  | p :: l, U => by
    rw [addU, List.foldl_cons]
    have := mem_addU (q := q) (l := l) (U := putU p U)
    rw [addU] at this
    rw [this, putU, List.mem_cons]
    by_cases c : p ∈ U
    · rw [if_pos c]
      constructor
      · rintro (h | h)
        · exact .inl h
        · exact .inr (.inr h)
      · rintro (h | rfl | h)
        · exact .inl h
        · exact .inl c
        · exact .inr h
    · rw [if_neg c, List.mem_append, List.mem_singleton, or_assoc]
theorem mem_foldU {q : List UInt8} : ∀ {M : List Ent} {U : List (List UInt8)}, q ∈ M.foldl (fun V x => addU V (upsN x.path x.path.length)) U ↔ q ∈ U ∨ ∃ x ∈ M, abv q x.path = true
  | [], U => by simp
  | y :: M, U => by
    rw [List.foldl_cons, mem_foldU, mem_addU, or_assoc]
    simp only [List.mem_cons, exists_eq_or_imp, abv_ups]
theorem rest_clash {M : List Ent} (h : oneEach M) {e : Ent} : restV M (upsAll M) e = clash M e := by
  have hall : M.all (fitsB e) = !(underB M e.path || (decide (e.path ∈ upsAll M) && !decide (e.kind = 2))) := by
    rw [under_any h]
    have hm : decide (e.path ∈ upsAll M) = M.any fun x => abv e.path x.path := by
      rw [Bool.eq_iff_iff, decide_eq_true_eq, upsAll, mem_foldU, List.any_eq_true]
      simp
    rw [hm]
    clear hm h
    induction M with
    | nil => simp
    | cons x M ih =>
      rw [List.all_cons, ih, List.any_cons, List.any_cons, fitsB]
      cases abv x.path e.path <;> cases abv e.path x.path <;> cases decide (x.kind = 2) <;> cases decide (e.kind = 2) <;> simp
  rw [restV, clash, hall]
  cases underB M e.path <;> cases (decide (e.path ∈ upsAll M) && !decide (e.kind = 2)) <;> rfl
theorem alike_comm {a b : Ent} : alikeB a b = alikeB b a := by
  simp only [alikeB, eq_comm (a := a.mode), eq_comm (a := a.uid), eq_comm (a := a.gid), eq_comm (a := a.owner), eq_comm (a := a.group), eq_comm (a := a.mtime)]
theorem ahd_bad {M : List Ent} (h : oneEach M) {e : Ent} : ahdV M (upsAll M) e = badE M e := by
  have h1 := posOf_findE (p := e.path) (l := M)
  have h2 := posOf_findE (p := e.link) (l := M)
  rw [ahdV, badE, rest_clash h, h2.2]
  by_cases c : chk e = 0
  · rw [if_pos c, if_pos c]
    cases hf : findE e.path M with
    | none =>
      rw [if_pos (h1.1.2 hf)]
      simp only [alike_comm (a := e)]
      rfl
    | some y =>
      have hn : ¬ posOf e.path M < 0 := fun x => by
        rw [h1.1.1 x] at hf
        cases hf
      simp only [if_neg hn]
  · rw [if_neg c, if_neg c]
end Go.Proofs.YtbmmdkbinlnogaaDoor.Aw
namespace Go.Proofs.YtbmmdkbinlnogaaDoor.Aw
open Go
set_option linter.unusedSimpArgs false
set_option linter.unusedVariables false
theorem findE_app {p : List UInt8} {e : Ent} : ∀ {M : List Ent}, findE p (M ++ [e]) = match findE p M with | some x => some x | none => if p = e.path then some e else none
  | [] => rfl
  | x :: M => by
    rw [List.cons_append, findE, findE]
    by_cases h : p = x.path
    · rw [if_pos h, if_pos h]
    · rw [if_neg h, if_neg h]; exact findE_app
theorem oneEach_app {M : List Ent} {e : Ent} (h : oneEach M) (hn : findE e.path M = none) : oneEach (M ++ [e]) := by
  intro x hx
  rw [findE_app]
  rcases List.mem_append.1 hx with hx | hx
  · rw [h x hx]
  · rw [List.mem_singleton.1 hx, hn]
    simp
theorem bad_zero {M : List Ent} {e : Ent} (h : badE M e = 0) : findE e.path M = none := by
  rw [badE] at h
  by_cases c : chk e = 0
  · rw [if_pos c] at h
    by_cases d : posOf e.path M < 0
    · exact posOf_findE.1.1 d
    · simp only [if_neg d] at h
      exact absurd h (by decide)
  · rw [if_neg c] at h
    exact absurd h c
theorem upsAll_app {M : List Ent} {e : Ent} : upsAll (M ++ [e]) = addU (upsAll M) (upsN e.path e.path.length) := by
  rw [upsAll, List.foldl_append]
  rfl
theorem upsAll_short {M : List Ent} (h : ∀ e ∈ M, e.path.length ≤ 1000000) : ∀ p ∈ upsAll M, p.length ≤ 1000000 := by
  intro p hp
  rw [upsAll, mem_foldU] at hp
  rcases hp with hp | ⟨x, hx, ha⟩
  · cases hp
  · exact ups_short x.path (h x hx) p (abv_ups.1 ha)
set_option maxHeartbeats 4000000 in
set_option maxRecDepth 100000 in
theorem CheckAll_c [Tabs Tryd.prog] (hca : CaOk) (nl : Bool) (l : List Ent) (hl : l.length ≤ 1000000) (hs : ∀ e ∈ l, entS e ∧ entI e) : Con Tryd.prog n_entry_CheckAll [.sl nl (some 10) (l.map entV)] (.tup [int (chkAll l).1, int (chkAll l).2]) := by
  refine Con.of' mix Tryd.func15 rfl Tryd.ntmps15 e_entry_CheckAll r_entry_CheckAll (by simp) (by simp only [AV.free, AV.free.freeL, free_ents, Bool.and_self]) rfl ?_
  unfold s_entry_CheckAll
  obtain ⟨Z, hZ⟩ : ∃ Z, Z = chkAll l := ⟨_, rfl⟩
  rw [← hZ]
  rw [chkAll] at hZ
  by_cases h1 : 4096 < l.length
  · have d1 : decide ((4096 : Int) < (l.length : Int)) = true := decide_eq_true (by omega)
    rw [if_pos h1] at hZ
    subst hZ
    repeat (first | refine wA ?_ | refine wB ?_ | refine wC rfl ?_ | refine wD rfl ?_ | refine wE ?_ | refine wF (by omega) ?_ | ((first | refine wG ?_ | refine wH ?_ | refine wI ?_ | refine wJ ?_ | refine wK ?_ | refine wL ?_); simp (disch := omega) only [wP, wZ, undef, UInt8.reduceToNat, Nat.reduceOr, Nat.reduceAnd, Nat.reduceXor, Nat.reduceDiv, if_pos, if_neg, aStore, frz, AV.flat, ↓reduceIte, ne_eq, reduceCtorEq, Int.reduceToNat, Nat.reduceEqDiff, Nat.reduceAdd, Nat.reduceSub, Nat.reduceMul, Int.reduceAdd, Int.reduceMul, Int.reduceSub, Int.reduceLT, Int.reduceLE, Int.reduceEq, Int.reduceNe, Nat.reduceLeDiff, Nat.reduceLT, Int.reduceNeg, Nat.reducePow, Nat.reduceMod, ByteArray.size, d1, List.length_map]))
  have d1 : decide ((4096 : Int) < (l.length : Int)) = false := decide_eq_false (by omega)
  rw [if_neg h1] at hZ
  repeat (first | refine wA ?_ | refine wB ?_ | refine wC rfl ?_ | refine wD rfl ?_ | refine wE ?_ | refine wF (by omega) ?_ | ((first | refine wG ?_ | refine wH ?_ | refine wI ?_ | refine wJ ?_ | refine wK ?_ | refine wL ?_); simp (disch := omega) only [wP, wZ, undef, UInt8.reduceToNat, Nat.reduceOr, Nat.reduceAnd, Nat.reduceXor, Nat.reduceDiv, if_pos, if_neg, aStore, frz, AV.flat, ↓reduceIte, ne_eq, reduceCtorEq, Int.reduceToNat, Nat.reduceEqDiff, Nat.reduceAdd, Nat.reduceSub, Nat.reduceMul, Int.reduceAdd, Int.reduceMul, Int.reduceSub, Int.reduceLT, Int.reduceLE, Int.reduceEq, Int.reduceNe, Nat.reduceLeDiff, Nat.reduceLT, Int.reduceNeg, Nat.reducePow, Nat.reduceMod, ByteArray.size, d1, List.length_map]))
  refine SWp.loop (α := Nat × Nat) (fun x => mk 32 x.2 [(4, .op 4 2 0), (14, .sl nl (some 10) (l.map entV)), (15, int l.length), (16, int x.1)] [(11, 0, .row false [.tup ((l.take x.1).map enM)]), (12, 1, .row false [.tup ((upsAll (l.take x.1)).map upM)]), (4, 2, .row false [.mp 11 0, .mp 12 1])])
    (fun x => x.1 ≤ l.length ∧ Z = badAt (l.take x.1) (l.drop x.1) x.1 ∧ oneEach (l.take x.1)) (fun x => l.length - x.1) (0, 3) ⟨Nat.zero_le _, hZ, fun x hx => by cases hx⟩ (le_mk rfl ?_ ?_ ?_) ?_
  · exact Nat.le_refl _
  · simp (disch := omega) only [wP, wZ, undef, UInt8.reduceToNat, Nat.reduceOr, Nat.reduceAnd, Nat.reduceXor, Nat.reduceDiv, if_pos, if_neg, aStore, frz, AV.flat, ↓reduceIte, ne_eq, reduceCtorEq, Int.reduceToNat, Nat.reduceEqDiff, Nat.reduceAdd, Nat.reduceSub, Nat.reduceMul, Int.reduceAdd, Int.reduceMul, Int.reduceSub, Int.reduceLT, Int.reduceLE, Int.reduceEq, Int.reduceNe, Nat.reduceLeDiff, Nat.reduceLT, Int.reduceNeg, Nat.reducePow, Nat.reduceMod, ByteArray.size]
  · simp (disch := omega) only [wP, wZ, undef, UInt8.reduceToNat, Nat.reduceOr, Nat.reduceAnd, Nat.reduceXor, Nat.reduceDiv, if_pos, if_neg, aStore, frz, AV.flat, ↓reduceIte, ne_eq, reduceCtorEq, Int.reduceToNat, Nat.reduceEqDiff, Nat.reduceAdd, Nat.reduceSub, Nat.reduceMul, Int.reduceAdd, Int.reduceMul, Int.reduceSub, Int.reduceLT, Int.reduceLE, Int.reduceEq, Int.reduceNe, Nat.reduceLeDiff, Nat.reduceLT, Int.reduceNeg, Nat.reducePow, Nat.reduceMod, ByteArray.size, List.take_zero, List.map_nil, show upsAll [] = [] from rfl]
  rintro ⟨k, g⟩ ⟨hk, hz, ho⟩ -
  simp only at hk hz ho
  by_cases hk' : k < l.length
  case neg =>
    have dk : decide ((k : Int) < (l.length : Int)) = false := decide_eq_false (by omega)
    rw [List.drop_eq_nil_of_le (by omega), badAt] at hz
    subst hz
    repeat (first | refine wA ?_ | refine wB ?_ | refine wC rfl ?_ | refine wD rfl ?_ | refine wE ?_ | refine wF (by omega) ?_ | ((first | refine wG ?_ | refine wH ?_ | refine wI ?_ | refine wJ ?_ | refine wK ?_ | refine wL ?_); simp (disch := omega) only [wP, wZ, undef, UInt8.reduceToNat, Nat.reduceOr, Nat.reduceAnd, Nat.reduceXor, Nat.reduceDiv, if_pos, if_neg, aStore, frz, AV.flat, ↓reduceIte, ne_eq, reduceCtorEq, Int.reduceToNat, Nat.reduceEqDiff, Nat.reduceAdd, Nat.reduceSub, Nat.reduceMul, Int.reduceAdd, Int.reduceMul, Int.reduceSub, Int.reduceLT, Int.reduceLE, Int.reduceEq, Int.reduceNe, Nat.reduceLeDiff, Nat.reduceLT, Int.reduceNeg, Nat.reducePow, Nat.reduceMod, ByteArray.size, dk, List.length_map]))
  have dk : decide ((k : Int) < (l.length : Int)) = true := decide_eq_true (by omega)
  rw [badAt_step hk'] at hz
  have hg1 := getD_ents hk'
  have t1 := hs l[k] (List.getElem_mem hk')
  have htk : l.take (k + 1) = l.take k ++ [l[k]] := by rw [List.take_add_one, List.getElem?_eq_getElem hk']; rfl
  rw [htk] at hz
  obtain ⟨e, he⟩ : ∃ e, e = l[k] := ⟨_, rfl⟩
  rw [← he] at hg1 hz t1 htk
  obtain ⟨M, hMe⟩ : ∃ M, M = l.take k := ⟨_, rfl⟩
  rw [← hMe] at hz ho htk
  have hMs : ∀ x ∈ M, entS x ∧ entI x := fun x hx => hs x (by rw [hMe] at hx; exact List.mem_of_mem_take hx)
  have hMp : ∀ x ∈ M, x.path.length ≤ 1000000 := fun x hx => (hMs x hx).1.1
  have hUp := upsAll_short hMp
  obtain ⟨U, hUe⟩ : ∃ U, U = upsAll M := ⟨_, rfl⟩
  have hb := ahd_bad ho (e := e)
  rw [← hUe] at hUp hb
  show SWp _ _ _ (mk 32 g [(4, .op 4 2 0), (14, .sl nl (some 10) (l.map entV)), (15, int l.length), (16, int k)] [(11, 0, .row false [.tup ((l.take k).map enM)]), (12, 1, .row false [.tup ((upsAll (l.take k)).map upM)]), (4, 2, .row false [.mp 11 0, .mp 12 1])])
  rw [← hMe, ← hUe]
  repeat (first | refine wA ?_ | refine wB ?_ | refine wC rfl ?_ | refine wD rfl ?_ | refine wE ?_ | refine wF (by omega) ?_ | ((first | refine wG ?_ | refine wH ?_ | refine wI ?_ | refine wJ ?_ | refine wK ?_ | refine wL ?_); simp (disch := omega) only [wP, wZ, undef, UInt8.reduceToNat, Nat.reduceOr, Nat.reduceAnd, Nat.reduceXor, Nat.reduceDiv, if_pos, if_neg, aStore, frz, AV.flat, ↓reduceIte, ne_eq, reduceCtorEq, Int.reduceToNat, Nat.reduceEqDiff, Nat.reduceAdd, Nat.reduceSub, Nat.reduceMul, Int.reduceAdd, Int.reduceMul, Int.reduceSub, Int.reduceLT, Int.reduceLE, Int.reduceEq, Int.reduceNe, Nat.reduceLeDiff, Nat.reduceLT, Int.reduceNeg, Nat.reducePow, Nat.reduceMod, ByteArray.size, dk, List.length_map, hg1, entV, entL]))
  refine goC_h [(11, 0), (12, 1)] 3000 (check_h hca M U hMs hUp e t1.1 t1.2) (by simp) (by simp) ?_ ?_ ?_
  · simp (disch := omega) only [wP, wZ, undef, UInt8.reduceToNat, Nat.reduceOr, Nat.reduceAnd, Nat.reduceXor, Nat.reduceDiv, if_pos, if_neg, aStore, frz, AV.flat, ↓reduceIte, ne_eq, reduceCtorEq, Int.reduceToNat, Nat.reduceEqDiff, Nat.reduceAdd, Nat.reduceSub, Nat.reduceMul, Int.reduceAdd, Int.reduceMul, Int.reduceSub, Int.reduceLT, Int.reduceLE, Int.reduceEq, Int.reduceNe, Nat.reduceLeDiff, Nat.reduceLT, Int.reduceNeg, Nat.reducePow, Nat.reduceMod, ByteArray.size, renL_enM, renL_upM]
    done
  · simp (disch := omega) only [wP, wZ, undef, UInt8.reduceToNat, Nat.reduceOr, Nat.reduceAnd, Nat.reduceXor, Nat.reduceDiv, if_pos, if_neg, aStore, frz, AV.flat, ↓reduceIte, ne_eq, reduceCtorEq, Int.reduceToNat, Nat.reduceEqDiff, Nat.reduceAdd, Nat.reduceSub, Nat.reduceMul, Int.reduceAdd, Int.reduceMul, Int.reduceSub, Int.reduceLT, Int.reduceLE, Int.reduceEq, Int.reduceNe, Nat.reduceLeDiff, Nat.reduceLT, Int.reduceNeg, Nat.reducePow, Nat.reduceMod, ByteArray.size, entV, entL, renL_free _ _ free_u8]
    done
  rw [hb]
  obtain ⟨z, hz2⟩ : ∃ z, z = badE M e := ⟨_, rfl⟩
  rw [← hz2] at hz ⊢
  by_cases h0 : z = 0
  case neg =>
    have d0 : decide (z = 0) = false := decide_eq_false h0
    rw [if_neg h0] at hz
    subst hz
    repeat (first | refine wA ?_ | refine wB ?_ | refine wC rfl ?_ | refine wD rfl ?_ | refine wE ?_ | refine wF (by omega) ?_ | ((first | refine wG ?_ | refine wH ?_ | refine wI ?_ | refine wJ ?_ | refine wK ?_ | refine wL ?_); simp (disch := omega) only [wP, wZ, undef, UInt8.reduceToNat, Nat.reduceOr, Nat.reduceAnd, Nat.reduceXor, Nat.reduceDiv, if_pos, if_neg, aStore, frz, AV.flat, ↓reduceIte, ne_eq, reduceCtorEq, Int.reduceToNat, Nat.reduceEqDiff, Nat.reduceAdd, Nat.reduceSub, Nat.reduceMul, Int.reduceAdd, Int.reduceMul, Int.reduceSub, Int.reduceLT, Int.reduceLE, Int.reduceEq, Int.reduceNe, Nat.reduceLeDiff, Nat.reduceLT, Int.reduceNeg, Nat.reducePow, Nat.reduceMod, ByteArray.size, d0, renL_enM, renL_upM]))
    done
  have d0 : decide (z = 0) = true := decide_eq_true h0
  rw [if_pos h0] at hz
  have hn := bad_zero (M := M) (e := e) (by rw [← hz2]; exact h0)
  repeat (first | refine wA ?_ | refine wB ?_ | refine wC rfl ?_ | refine wD rfl ?_ | refine wE ?_ | refine wF (by omega) ?_ | ((first | refine wG ?_ | refine wH ?_ | refine wI ?_ | refine wJ ?_ | refine wK ?_ | refine wL ?_); simp (disch := omega) only [wP, wZ, undef, UInt8.reduceToNat, Nat.reduceOr, Nat.reduceAnd, Nat.reduceXor, Nat.reduceDiv, if_pos, if_neg, aStore, frz, AV.flat, ↓reduceIte, ne_eq, reduceCtorEq, Int.reduceToNat, Nat.reduceEqDiff, Nat.reduceAdd, Nat.reduceSub, Nat.reduceMul, Int.reduceAdd, Int.reduceMul, Int.reduceSub, Int.reduceLT, Int.reduceLE, Int.reduceEq, Int.reduceNe, Nat.reduceLeDiff, Nat.reduceLT, Int.reduceNeg, Nat.reducePow, Nat.reduceMod, ByteArray.size, d0, renL_enM, renL_upM, entL]))
  refine goC_h [(11, 0), (12, 1)] 6000 (add_h M U hMp hUp e t1.1.1 hn) (by simp) (by simp) ?_ ?_ ?_
  iterate 2 (case _ => simp (disch := omega) only [wP, wZ, undef, UInt8.reduceToNat, Nat.reduceOr, Nat.reduceAnd, Nat.reduceXor, Nat.reduceDiv, if_pos, if_neg, aStore, frz, AV.flat, ↓reduceIte, ne_eq, reduceCtorEq, Int.reduceToNat, Nat.reduceEqDiff, Nat.reduceAdd, Nat.reduceSub, Nat.reduceMul, Int.reduceAdd, Int.reduceMul, Int.reduceSub, Int.reduceLT, Int.reduceLE, Int.reduceEq, Int.reduceNe, Nat.reduceLeDiff, Nat.reduceLT, Int.reduceNeg, Nat.reducePow, Nat.reduceMod, ByteArray.size, renL_enM, renL_upM, entV, entL, renL_free _ _ free_u8])
  repeat (first | refine wA ?_ | refine wB ?_ | refine wC rfl ?_ | refine wD rfl ?_ | refine wE ?_ | refine wF (by omega) ?_ | ((first | refine wG ?_ | refine wH ?_ | refine wI ?_ | refine wJ ?_ | refine wK ?_ | refine wL ?_); simp (disch := omega) only [wP, wZ, undef, UInt8.reduceToNat, Nat.reduceOr, Nat.reduceAnd, Nat.reduceXor, Nat.reduceDiv, if_pos, if_neg, aStore, frz, AV.flat, ↓reduceIte, ne_eq, reduceCtorEq, Int.reduceToNat, Nat.reduceEqDiff, Nat.reduceAdd, Nat.reduceSub, Nat.reduceMul, Int.reduceAdd, Int.reduceMul, Int.reduceSub, Int.reduceLT, Int.reduceLE, Int.reduceEq, Int.reduceNe, Nat.reduceLeDiff, Nat.reduceLT, Int.reduceNeg, Nat.reducePow, Nat.reduceMod, ByteArray.size, renL_enM, renL_upM]))
  have hU3 : upsAll (M ++ [e]) = addU U (upsN e.path e.path.length) := by rw [upsAll_app, hUe]
  have hre : ∀ ρ, ren ρ (enM e) = enM e := fun ρ => by
    have := renL_enM (ρ := ρ) (M := [e])
    simp only [List.map_cons, List.map_nil, ren.renL, List.cons.injEq, and_true] at this
    exact this
  refine At.of (k + 1, g + KU + 1000) ⟨by simp only; omega, by simp only; rw [htk]; exact hz, by simp only; rw [htk]; exact oneEach_app ho hn⟩ (by simp only; omega) rfl rfl ?_ ?_ ?_
  · simp only
    omega
  iterate 2 (case _ => simp (disch := omega) only [wP, wZ, undef, UInt8.reduceToNat, Nat.reduceOr, Nat.reduceAnd, Nat.reduceXor, Nat.reduceDiv, if_pos, if_neg, aStore, frz, AV.flat, ↓reduceIte, ne_eq, reduceCtorEq, Int.reduceToNat, Nat.reduceEqDiff, Nat.reduceAdd, Nat.reduceSub, Nat.reduceMul, Int.reduceAdd, Int.reduceMul, Int.reduceSub, Int.reduceLT, Int.reduceLE, Int.reduceEq, Int.reduceNe, Nat.reduceLeDiff, Nat.reduceLT, Int.reduceNeg, Nat.reducePow, Nat.reduceMod, ByteArray.size, hU3, htk, hre])
end Go.Proofs.YtbmmdkbinlnogaaDoor.Aw
namespace Go.Proofs.YtbmmdkbinlnogaaDoor.Aw
open Go
set_option linter.unusedSimpArgs false
set_option linter.unusedVariables false
def canP (l : List Ent) : List Ent := (regL (sortE l) l.length).1
theorem shE_perm {l m : List Ent} (h : m.Perm l) (hs : shE l) : shE m := fun e he => hs e (h.subset he)
theorem canP_len {l : List Ent} : (canP l).length = l.length := by rw [canP, regL_len, sortE_length]
theorem badAt_ok : ∀ (r a : List Ent) (i : Nat), (badAt a r i).2 = 0 ↔ ∀ k (h : k < r.length), badE (a ++ r.take k) r[k] = 0
  | [], a, i => by simp [badAt]
  | e :: r, a, i => by
    rw [badAt]
    by_cases h : badE a e = 0
    · rw [if_pos h, badAt_ok r (a ++ [e]) (i + 1)]
      constructor
      · intro H k hk
        cases k with
        | zero => simpa using h
        | succ k => simpa using H k (by simpa using hk)
      · intro H k hk
        have := H (k + 1) (by simpa using hk)
        simp only [List.take_succ_cons, List.getElem_cons_succ] at this
        simpa using this
    · rw [if_neg h]
      constructor
      · intro H
        exact absurd H h
      · intro H
        have := H 0 (by simp)
        simp only [List.take_zero, List.append_nil, List.getElem_cons_zero] at this
        exact absurd this h
theorem chkAll_ok {l : List Ent} : (chkAll l).2 = 0 ↔ l.length ≤ 4096 ∧ ∀ k (h : k < l.length), badE (l.take k) l[k] = 0 := by
  rw [chkAll]
  by_cases h : 4096 < l.length
  · rw [if_pos h]
    constructor
    · intro H; cases H
    · rintro ⟨H, -⟩; omega
  · rw [if_neg h, badAt_ok]
    simp only [List.nil_append]
    exact ⟨fun H => ⟨by omega, H⟩, fun H => H.2⟩
theorem findE_none {p : List UInt8} : ∀ {M : List Ent}, findE p M = none → ∀ e ∈ M, p ≠ e.path
  | x :: M, h, e, he => by
    rw [findE] at h
    by_cases c : p = x.path
    · rw [if_pos c] at h; cases h
    · rw [if_neg c] at h
      rcases List.mem_cons.1 he with rfl | he
      · exact c
      · exact findE_none h e he
theorem ok_nodup {l : List Ent} (h : (chkAll l).2 = 0) : (l.map (·.path)).Nodup := by
  obtain ⟨-, h⟩ := chkAll_ok.1 h
  rw [List.Nodup, List.pairwise_iff_getElem]
  intro i j hi hj hij
  simp only [List.length_map] at hi hj
  simp only [List.getElem_map]
  have := findE_none (bad_zero (h j hj)) l[i] (by rw [List.mem_take_iff_getElem]; exact ⟨i, by omega, rfl⟩)
  exact fun e => this e.symm
def canV (nl : Bool) (l : List Ent) : AV := if (chkAll l).2 = 0 then .tup [.sl nl (some 10) ((canP l).map entV), int 0] else .tup [.sc (.slice none 0 0), int (chkAll l).2]
theorem entS_sh {l : List Ent} (hs : ∀ e ∈ l, entS e ∧ entI e) : shE l := fun e he => ⟨(hs e he).1.1, (hs e he).1.2.2.2.1⟩
set_option maxRecDepth 100000 in
theorem Copy_n [Tabs Tryd.prog] : Con Tryd.prog n_entry_Copy [.sl true (some 10) []] (.sc (.slice none 0 0)) := by
  refine Con.of' mix Tryd.func23 rfl Tryd.ntmps23 e_entry_Copy r_entry_Copy (by simp) rfl rfl ?_
  unfold s_entry_Copy
  repeat (first | refine wA ?_ | refine wB ?_ | refine wC rfl ?_ | refine wD rfl ?_ | refine wE ?_ | refine wF (by omega) ?_ | ((first | refine wG ?_ | refine wH ?_ | refine wI ?_ | refine wJ ?_ | refine wK ?_ | refine wL ?_); simp (disch := omega) only [wP, wZ, undef, UInt8.reduceToNat, Nat.reduceOr, Nat.reduceAnd, Nat.reduceXor, Nat.reduceDiv, if_pos, if_neg, aStore, frz, AV.flat, ↓reduceIte, ne_eq, reduceCtorEq, Int.reduceToNat, Nat.reduceEqDiff, Nat.reduceAdd, Nat.reduceSub, Nat.reduceMul, Int.reduceAdd, Int.reduceMul, Int.reduceSub, Int.reduceLT, Int.reduceLE, Int.reduceEq, Int.reduceNe, Nat.reduceLeDiff, Nat.reduceLT, Int.reduceNeg, Nat.reducePow, Nat.reduceMod, ByteArray.size]))
  refine goC_p _ (.inl ⟨rfl, slices_CloneE_n⟩) ?_
  repeat (first | refine wA ?_ | refine wB ?_ | refine wC rfl ?_ | refine wD rfl ?_ | refine wE ?_ | refine wF (by omega) ?_ | ((first | refine wG ?_ | refine wH ?_ | refine wI ?_ | refine wJ ?_ | refine wK ?_ | refine wL ?_); simp (disch := omega) only [wP, wZ, undef, UInt8.reduceToNat, Nat.reduceOr, Nat.reduceAnd, Nat.reduceXor, Nat.reduceDiv, if_pos, if_neg, aStore, frz, AV.flat, ↓reduceIte, ne_eq, reduceCtorEq, Int.reduceToNat, Nat.reduceEqDiff, Nat.reduceAdd, Nat.reduceSub, Nat.reduceMul, Int.reduceAdd, Int.reduceMul, Int.reduceSub, Int.reduceLT, Int.reduceLE, Int.reduceEq, Int.reduceNe, Nat.reduceLeDiff, Nat.reduceLT, Int.reduceNeg, Nat.reducePow, Nat.reduceMod, ByteArray.size]))
  refine SWp.unroll ?_
  repeat (first | refine wA ?_ | refine wB ?_ | refine wC rfl ?_ | refine wD rfl ?_ | refine wE ?_ | refine wF (by omega) ?_ | ((first | refine wG ?_ | refine wH ?_ | refine wI ?_ | refine wJ ?_ | refine wK ?_ | refine wL ?_); simp (disch := omega) only [wP, wZ, undef, UInt8.reduceToNat, Nat.reduceOr, Nat.reduceAnd, Nat.reduceXor, Nat.reduceDiv, if_pos, if_neg, aStore, frz, AV.flat, ↓reduceIte, ne_eq, reduceCtorEq, Int.reduceToNat, Nat.reduceEqDiff, Nat.reduceAdd, Nat.reduceSub, Nat.reduceMul, Int.reduceAdd, Int.reduceMul, Int.reduceSub, Int.reduceLT, Int.reduceLE, Int.reduceEq, Int.reduceNe, Nat.reduceLeDiff, Nat.reduceLT, Int.reduceNeg, Nat.reducePow, Nat.reduceMod, ByteArray.size]))
theorem chunks_enC : ∀ {l : List Ent}, chunks (some 10) l.length (enC l) = l.map entV
  | [] => rfl
  | e :: l => by
    have ih := chunks_enC (l := l)
    rw [List.length_cons, enC_cons, chunks, List.map_cons, show (10 : Nat) = (entL e).length from rfl, List.take_left, List.drop_left, show (entL e).length = (10 : Nat) from rfl, ih]
    rfl
set_option maxHeartbeats 1000000 in
set_option maxRecDepth 100000 in
theorem Canon_f [Tabs Tryd.prog] (l : List Ent) (hl : l.length ≤ 1000000) (hs : ∀ e ∈ l, entS e ∧ entI e) (hn : nlOk l) : Con Tryd.prog n_entry_Canon [.sl false (some 10) (l.map entV)] (canV false l) := by
  refine Con.of' mix Tryd.func19 rfl Tryd.ntmps19 e_entry_Canon r_entry_Canon (by simp) (by simp only [AV.free, AV.free.freeL, free_ents, Bool.and_self]) (by unfold canV; split <;> simp only [AV.free, AV.free.freeL, free_ents, int, Bool.and_self]) ?_
  unfold s_entry_Canon
  obtain ⟨Z, hZ⟩ : ∃ Z, Z = canV false l := ⟨_, rfl⟩
  rw [← hZ]
  rw [canV] at hZ
  repeat (first | refine wA ?_ | refine wB ?_ | refine wC rfl ?_ | refine wD rfl ?_ | refine wE ?_ | refine wF (by omega) ?_ | ((first | refine wG ?_ | refine wH ?_ | refine wI ?_ | refine wJ ?_ | refine wK ?_ | refine wL ?_); simp (disch := omega) only [wP, wZ, undef, UInt8.reduceToNat, Nat.reduceOr, Nat.reduceAnd, Nat.reduceXor, Nat.reduceDiv, if_pos, if_neg, aStore, frz, AV.flat, ↓reduceIte, ne_eq, reduceCtorEq, Int.reduceToNat, Nat.reduceEqDiff, Nat.reduceAdd, Nat.reduceSub, Nat.reduceMul, Int.reduceAdd, Int.reduceMul, Int.reduceSub, Int.reduceLT, Int.reduceLE, Int.reduceEq, Int.reduceNe, Nat.reduceLeDiff, Nat.reduceLT, Int.reduceNeg, Nat.reducePow, Nat.reduceMod, ByteArray.size]))
  refine goC_p _ (.inl ⟨by simp only [AV.free, AV.free.freeL, free_ents, Bool.and_self], CheckAll_c caOk false l hl hs⟩) ?_
  by_cases h0 : (chkAll l).2 = 0
  case neg =>
    have d0 : decide ((chkAll l).2 = 0) = false := decide_eq_false h0
    rw [if_neg h0] at hZ
    obtain ⟨C, hC⟩ : ∃ C, C = chkAll l := ⟨_, rfl⟩
    rw [← hC] at hZ d0 ⊢
    subst hZ
    repeat (first | refine wA ?_ | refine wB ?_ | refine wC rfl ?_ | refine wD rfl ?_ | refine wE ?_ | refine wF (by omega) ?_ | ((first | refine wG ?_ | refine wH ?_ | refine wI ?_ | refine wJ ?_ | refine wK ?_ | refine wL ?_); simp (disch := omega) only [wP, wZ, undef, UInt8.reduceToNat, Nat.reduceOr, Nat.reduceAnd, Nat.reduceXor, Nat.reduceDiv, if_pos, if_neg, aStore, frz, AV.flat, ↓reduceIte, ne_eq, reduceCtorEq, Int.reduceToNat, Nat.reduceEqDiff, Nat.reduceAdd, Nat.reduceSub, Nat.reduceMul, Int.reduceAdd, Int.reduceMul, Int.reduceSub, Int.reduceLT, Int.reduceLE, Int.reduceEq, Int.reduceNe, Nat.reduceLeDiff, Nat.reduceLT, Int.reduceNeg, Nat.reducePow, Nat.reduceMod, ByteArray.size, d0, Bool.not_false]))
    done
  have d0 : decide ((chkAll l).2 = 0) = true := decide_eq_true h0
  rw [if_pos h0] at hZ
  have hnd := ok_nodup h0
  obtain ⟨C, hC⟩ : ∃ C, C = chkAll l := ⟨_, rfl⟩
  rw [← hC] at d0 ⊢
  repeat (first | refine wA ?_ | refine wB ?_ | refine wC rfl ?_ | refine wD rfl ?_ | refine wE ?_ | refine wF (by omega) ?_ | ((first | refine wG ?_ | refine wH ?_ | refine wI ?_ | refine wJ ?_ | refine wK ?_ | refine wL ?_); simp (disch := omega) only [wP, wZ, undef, UInt8.reduceToNat, Nat.reduceOr, Nat.reduceAnd, Nat.reduceXor, Nat.reduceDiv, if_pos, if_neg, aStore, frz, AV.flat, ↓reduceIte, ne_eq, reduceCtorEq, Int.reduceToNat, Nat.reduceEqDiff, Nat.reduceAdd, Nat.reduceSub, Nat.reduceMul, Int.reduceAdd, Int.reduceMul, Int.reduceSub, Int.reduceLT, Int.reduceLE, Int.reduceEq, Int.reduceNe, Nat.reduceLeDiff, Nat.reduceLT, Int.reduceNeg, Nat.reducePow, Nat.reduceMod, ByteArray.size, d0, Bool.not_true]))
  refine goC_h [] 100 (Copy_h l hl hn (fun e he => (hs e he).1.2.2.2.2)) (by simp) (by simp) (by simp [handOk]) (by simp only [ren.renL, ren, renL_ents]) ?_
  repeat (first | refine wA ?_ | refine wB ?_ | refine wC rfl ?_ | refine wD rfl ?_ | refine wE ?_ | refine wF (by omega) ?_ | ((first | refine wG ?_ | refine wH ?_ | refine wI ?_ | refine wJ ?_ | refine wK ?_ | refine wL ?_); simp (disch := omega) only [wP, wZ, undef, UInt8.reduceToNat, Nat.reduceOr, Nat.reduceAnd, Nat.reduceXor, Nat.reduceDiv, if_pos, if_neg, aStore, frz, AV.flat, ↓reduceIte, ne_eq, reduceCtorEq, Int.reduceToNat, Nat.reduceEqDiff, Nat.reduceAdd, Nat.reduceSub, Nat.reduceMul, Int.reduceAdd, Int.reduceMul, Int.reduceSub, Int.reduceLT, Int.reduceLE, Int.reduceEq, Int.reduceNe, Nat.reduceLeDiff, Nat.reduceLT, Int.reduceNeg, Nat.reducePow, Nat.reduceMod, ByteArray.size, renL_enC]))
  have h2 : HCon Tryd.prog n_slices_SortFuncapi_Entryapi_Entry [.own 1000 0 (some 10) 0 l.length, .sc (.func (.func n_entry_Canon_1) #[] #[])] [.row false (enC l)] (.tup []) [(1000, 0, .row false (enC (sortE l)))] 1 := SortFunc_h false l (by simp) hnd hl
  refine goC_h [(111, 3)] 300 h2 (by simp) (by simp) (by simp (disch := omega) only [wP, wZ, undef, UInt8.reduceToNat, Nat.reduceOr, Nat.reduceAnd, Nat.reduceXor, Nat.reduceDiv, if_pos, if_neg, aStore, frz, AV.flat, ↓reduceIte, ne_eq, reduceCtorEq, Int.reduceToNat, Nat.reduceEqDiff, Nat.reduceAdd, Nat.reduceSub, Nat.reduceMul, Int.reduceAdd, Int.reduceMul, Int.reduceSub, Int.reduceLT, Int.reduceLE, Int.reduceEq, Int.reduceNe, Nat.reduceLeDiff, Nat.reduceLT, Int.reduceNeg, Nat.reducePow, Nat.reduceMod, ByteArray.size, handOk, AO.ren, renL_enC]) (by simp (disch := omega) only [wP, wZ, undef, UInt8.reduceToNat, Nat.reduceOr, Nat.reduceAnd, Nat.reduceXor, Nat.reduceDiv, if_pos, if_neg, aStore, frz, AV.flat, ↓reduceIte, ne_eq, reduceCtorEq, Int.reduceToNat, Nat.reduceEqDiff, Nat.reduceAdd, Nat.reduceSub, Nat.reduceMul, Int.reduceAdd, Int.reduceMul, Int.reduceSub, Int.reduceLT, Int.reduceLE, Int.reduceEq, Int.reduceNe, Nat.reduceLeDiff, Nat.reduceLT, Int.reduceNeg, Nat.reducePow, Nat.reduceMod, ByteArray.size, ren.renL, ren, rho, handed]) ?_
  repeat (first | refine wA ?_ | refine wB ?_ | refine wC rfl ?_ | refine wD rfl ?_ | refine wE ?_ | refine wF (by omega) ?_ | ((first | refine wG ?_ | refine wH ?_ | refine wI ?_ | refine wJ ?_ | refine wK ?_ | refine wL ?_); simp (disch := omega) only [wP, wZ, undef, UInt8.reduceToNat, Nat.reduceOr, Nat.reduceAnd, Nat.reduceXor, Nat.reduceDiv, if_pos, if_neg, aStore, frz, AV.flat, ↓reduceIte, ne_eq, reduceCtorEq, Int.reduceToNat, Nat.reduceEqDiff, Nat.reduceAdd, Nat.reduceSub, Nat.reduceMul, Int.reduceAdd, Int.reduceMul, Int.reduceSub, Int.reduceLT, Int.reduceLE, Int.reduceEq, Int.reduceNe, Nat.reduceLeDiff, Nat.reduceLT, Int.reduceNeg, Nat.reducePow, Nat.reduceMod, ByteArray.size, renL_enC]))
  have h3 := regroup_h false (sortE l) (by rw [sortE_length]; exact hl) (shE_perm (sortE_perm l) (entS_sh hs))
  rw [sortE_length, ← canP] at h3
  refine goC_h [(111, 3)] 600 h3 (by simp) (by simp) (by simp (disch := omega) only [wP, wZ, undef, UInt8.reduceToNat, Nat.reduceOr, Nat.reduceAnd, Nat.reduceXor, Nat.reduceDiv, if_pos, if_neg, aStore, frz, AV.flat, ↓reduceIte, ne_eq, reduceCtorEq, Int.reduceToNat, Nat.reduceEqDiff, Nat.reduceAdd, Nat.reduceSub, Nat.reduceMul, Int.reduceAdd, Int.reduceMul, Int.reduceSub, Int.reduceLT, Int.reduceLE, Int.reduceEq, Int.reduceNe, Nat.reduceLeDiff, Nat.reduceLT, Int.reduceNeg, Nat.reducePow, Nat.reduceMod, ByteArray.size, handOk, AO.ren, renL_enC]) (by simp (disch := omega) only [wP, wZ, undef, UInt8.reduceToNat, Nat.reduceOr, Nat.reduceAnd, Nat.reduceXor, Nat.reduceDiv, if_pos, if_neg, aStore, frz, AV.flat, ↓reduceIte, ne_eq, reduceCtorEq, Int.reduceToNat, Nat.reduceEqDiff, Nat.reduceAdd, Nat.reduceSub, Nat.reduceMul, Int.reduceAdd, Int.reduceMul, Int.reduceSub, Int.reduceLT, Int.reduceLE, Int.reduceEq, Int.reduceNe, Nat.reduceLeDiff, Nat.reduceLT, Int.reduceNeg, Nat.reducePow, Nat.reduceMod, ByteArray.size, ren.renL, ren, rho, handed]) ?_
  have hch : chunks (some 10) l.length (enC (canP l)) = (canP l).map entV := by rw [← canP_len, chunks_enC]
  subst hZ
  repeat (first | refine wA ?_ | refine wB ?_ | refine wC rfl ?_ | refine wD rfl ?_ | refine wE ?_ | refine wF (by omega) ?_ | ((first | refine wG ?_ | refine wH ?_ | refine wI ?_ | refine wJ ?_ | refine wK ?_ | refine wL ?_); simp (disch := omega) only [wP, wZ, undef, UInt8.reduceToNat, Nat.reduceOr, Nat.reduceAnd, Nat.reduceXor, Nat.reduceDiv, if_pos, if_neg, aStore, frz, AV.flat, ↓reduceIte, ne_eq, reduceCtorEq, Int.reduceToNat, Nat.reduceEqDiff, Nat.reduceAdd, Nat.reduceSub, Nat.reduceMul, Int.reduceAdd, Int.reduceMul, Int.reduceSub, Int.reduceLT, Int.reduceLE, Int.reduceEq, Int.reduceNe, Nat.reduceLeDiff, Nat.reduceLT, Int.reduceNeg, Nat.reducePow, Nat.reduceMod, ByteArray.size, renL_enC, length_enC, canP_len, hch]))
end Go.Proofs.YtbmmdkbinlnogaaDoor.Aw
namespace Go.Proofs.YtbmmdkbinlnogaaDoor.Aw
open Go
set_option linter.unusedSimpArgs false
set_option linter.unusedVariables false
end Go.Proofs.YtbmmdkbinlnogaaDoor.Aw
namespace Go.Proofs.YtbmmdkbinlnogaaDoor.Aw
open Go
set_option linter.unusedSimpArgs false
set_option linter.unusedVariables false
abbrev gE (l : List Ent) (i : Nat) : Ent := l.getD i default
theorem gE_set {l : List Ent} {i j : Nat} {e : Ent} (hi : i < l.length) : gE (l.set i e) j = if i = j then e else gE l j := by
  by_cases h : i = j
  · subst h
    rw [if_pos rfl]
    simp [gE, List.getD, hi]
  · rw [if_neg h]
    simp [gE, List.getD, List.getElem?_set_ne h]
def grp (e : Ent) : Option (List UInt8) := if e.kind = 1 then some e.path else if e.kind = 4 then some e.link else none
theorem filV_grp {e : Ent} : filV e = match grp e with | some g => (g, true) | none => ([], false) := by
  unfold filV grp
  by_cases h1 : e.kind = 1
  · rw [if_pos h1, if_pos h1]
  · rw [if_neg h1, if_neg h1]
    by_cases h4 : e.kind = 4
    · rw [if_pos h4, if_pos h4]
    · rw [if_neg h4, if_neg h4]
theorem grp_reg {e : Ent} (h : e.kind = 1) : grp e = some e.path := if_pos h
theorem grp_hard {e : Ent} (h : e.kind = 4) : grp e = some e.link := by rw [grp, if_neg (by omega), if_pos h]
theorem grp_kind {e : Ent} {g : List UInt8} (h : grp e = some g) : (e.kind = 1 ∧ e.path = g) ∨ (e.kind = 4 ∧ e.link = g) := by
  unfold grp at h
  by_cases h1 : e.kind = 1
  · rw [if_pos h1] at h
    exact .inl ⟨h1, Option.some.inj h⟩
  · rw [if_neg h1] at h
    by_cases h4 : e.kind = 4
    · rw [if_pos h4] at h
      exact .inr ⟨h4, Option.some.inj h⟩
    · rw [if_neg h4] at h
      cases h
structure Good (s : List Ent) : Prop where
  nd : ∀ i j, i < s.length → j < s.length → (gE s i).path = (gE s j).path → i = j
  reg : ∀ i, i < s.length → (gE s i).kind = 1 → (gE s i).link = []
  hard : ∀ i, i < s.length → (gE s i).kind = 4 → (gE s i).data = []
  file : ∀ i, i < s.length → (gE s i).kind = 4 → ∃ f, f < s.length ∧ (gE s f).kind = 1 ∧ (gE s f).path = (gE s i).link
def fstG (s : List Ent) (g : List UInt8) (m : Nat) : Prop := m < s.length ∧ grp (gE s m) = some g ∧ ∀ j, j < m → grp (gE s j) ≠ some g
theorem fstG_uni {s : List Ent} {g : List UInt8} {m m' : Nat} (h : fstG s g m) (h' : fstG s g m') : m = m' := by
  rcases Nat.lt_trichotomy m m' with c | c | c
  · exact absurd h.2.1 (h'.2.2 m c)
  · exact c
  · exact absurd h'.2.1 (h.2.2 m' c)
theorem fstG_ex {s : List Ent} {g : List UInt8} : ∀ j, j < s.length → grp (gE s j) = some g → ∃ m, m ≤ j ∧ fstG s g m := by
  intro j
  induction j using Nat.strongRecOn with
  | ind j ih =>
    intro hj hg
    by_cases c : ∃ i, i < j ∧ grp (gE s i) = some g
    · obtain ⟨i, hi, hgi⟩ := c
      obtain ⟨m, hm, hf⟩ := ih i hi (by omega) hgi
      exact ⟨m, by omega, hf⟩
    · exact ⟨j, Nat.le_refl _, hj, hg, fun i hi h => c ⟨i, hi, h⟩⟩
theorem file_uni {s : List Ent} (hG : Good s) {g : List UInt8} {i j : Nat} (hi : i < s.length) (hj : j < s.length) (gi : grp (gE s i) = some g) (gj : grp (gE s j) = some g) (ki : (gE s i).kind = 1) (kj : (gE s j).kind = 1) : i = j := by
  rw [grp_reg ki] at gi
  rw [grp_reg kj] at gj
  exact hG.nd i j hi hj (by rw [Option.some.inj gi, Option.some.inj gj])
structure InvP (s L : List Ent) (F : Fi) (k : Nat) : Prop where
  len : L.length = s.length
  hi : ∀ j, k ≤ j → gE L j = gE s j
  F : ∀ g m, findF g F = some m ↔ fstG s g m ∧ m < k
  no : ∀ j, grp (gE s j) = none → gE L j = gE s j
  non : ∀ j, j < k → ∀ g m, fstG s g m → grp (gE s j) = some g → m < j → gE L j = asHard (gE s j) (gE s m).path
  fs1 : ∀ g m, fstG s g m → m < k → ∀ f, m < f → f < k → grp (gE s f) = some g → (gE s f).kind = 1 → gE L m = asReg (gE s m) (gE s f)
  fs2 : ∀ g m, fstG s g m → m < k → (∀ f, m < f → f < k → grp (gE s f) = some g → (gE s f).kind ≠ 1) → gE L m = gE s m
theorem findF_app {p q : List UInt8} {i : Nat} : ∀ {F : Fi}, findF p (F ++ [(q, i)]) = match findF p F with | some m => some m | none => if p = q then some i else none
  | [] => rfl
  | e :: F => by
    rw [List.cons_append, findF, findF]
    by_cases h : p = e.1
    · rw [if_pos h, if_pos h]
    · rw [if_neg h, if_neg h]; exact findF_app
theorem invP_path {s L : List Ent} {F : Fi} {k : Nat} (h : InvP s L F k) {g : List UInt8} {m : Nat} (hf : fstG s g m) (hm : m < k) : (gE L m).path = (gE s m).path ∧ ∀ x, asReg (gE L m) x = asReg (gE s m) x := by
  by_cases c : ∃ f, m < f ∧ f < k ∧ grp (gE s f) = some g ∧ (gE s f).kind = 1
  · obtain ⟨f, h1, h2, h3, h4⟩ := c
    rw [h.fs1 g m hf hm f h1 h2 h3 h4]
    exact ⟨rfl, fun _ => rfl⟩
  · rw [h.fs2 g m hf hm (fun f h1 h2 h3 h4 => c ⟨f, h1, h2, h3, h4⟩)]
    exact ⟨rfl, fun _ => rfl⟩
theorem invP_step {s L : List Ent} {F : Fi} {k : Nat} (hG : Good s) (h : InvP s L F k) (hk : k < s.length) : InvP s (regS L F k).1 (regS L F k).2 (k + 1) := by
  have hLk : L.getD k default = gE s k := h.hi k (Nat.le_refl _)
  have hkL : k < L.length := by rw [h.len]; exact hk
  cases hg : grp (gE s k) with
  | none =>
    have e : regS L F k = (L, F) := by rw [regS, hLk, filV_grp, hg]; rfl
    rw [e]
    refine ⟨h.len, fun j hj => h.hi j (by omega), fun g m => ?_, h.no, fun j hj g m hf hgj hm => ?_, fun g m hf hm f h1 h2 h3 h4 => ?_, fun g m hf hm hn => ?_⟩
    · rw [h.F]
      refine ⟨fun ⟨a, b⟩ => ⟨a, by omega⟩, fun ⟨a, b⟩ => ⟨a, ?_⟩⟩
      by_cases c : m = k
      · subst c
        have := a.2.1
        rw [hg] at this
        cases this
      · omega
    · by_cases c : j = k
      · subst c; rw [hg] at hgj; cases hgj
      · exact h.non j (by omega) g m hf hgj hm
    · have hmk : m < k := by
        by_cases c : m = k
        · subst c; have := hf.2.1; rw [hg] at this; cases this
        · omega
      by_cases c : f = k
      · subst c; rw [hg] at h3; cases h3
      · exact h.fs1 g m hf hmk f h1 (by omega) h3 h4
    · have hmk : m < k := by
        by_cases c : m = k
        · subst c; have := hf.2.1; rw [hg] at this; cases this
        · omega
      exact h.fs2 g m hf hmk (fun f h1 h2 h3 => hn f h1 (by omega) h3)
  | some g =>
    cases hF : findF g F with
    | none =>
      have e : regS L F k = (L, F ++ [(g, k)]) := by rw [regS, hLk, filV_grp, hg]; simp only [hF]; rfl
      have hfk : fstG s g k := by
        obtain ⟨m, hm, hf⟩ := fstG_ex k hk hg
        by_cases c : m = k
        · subst c; exact hf
        · have := (h.F g m).2 ⟨hf, by omega⟩
          rw [hF] at this
          cases this
      rw [e]
      have old : ∀ g' m, fstG s g' m → m < k → g' ≠ g := fun g' m hf hm e => by
        subst e
        have := fstG_uni hf hfk
        omega
      refine ⟨h.len, fun j hj => h.hi j (by omega), fun g' m => ?_, h.no, fun j hj g' m hf hgj hm => ?_, fun g' m hf hm f h1 h2 h3 h4 => ?_, fun g' m hf hm hn => ?_⟩
      · rw [findF_app]
        cases hF' : findF g' F with
        | some m' =>
          have h1 := (h.F g' m').1 hF'
          constructor
          · intro e2
            have : m' = m := Option.some.inj e2
            subst this
            exact ⟨h1.1, by omega⟩
          · rintro ⟨a, b⟩
            rw [fstG_uni h1.1 a]
        | none =>
          by_cases c : g' = g
          · subst c
            simp only [if_pos rfl]
            constructor
            · intro e2
              have : k = m := Option.some.inj e2
              subst this
              exact ⟨hfk, by omega⟩
            · rintro ⟨a, b⟩
              rw [fstG_uni hfk a]
              exact if_pos trivial
          · simp only [if_neg c]
            constructor
            · intro e2; cases e2
            · rintro ⟨a, b⟩
              exfalso
              have hne : m ≠ k := fun e2 => by
                subst e2
                have := a.2.1
                rw [hg] at this
                exact c (Option.some.inj this).symm
              have := (h.F g' m).2 ⟨a, by omega⟩
              rw [hF'] at this
              cases this
      · by_cases c : j = k
        · subst c
          rw [hg] at hgj
          obtain rfl := Option.some.inj hgj
          have := fstG_uni hf hfk
          omega
        · exact h.non j (by omega) g' m hf hgj hm
      · by_cases c : m = k
        · omega
        · have hmk : m < k := by omega
          by_cases c2 : f = k
          · subst c2
            rw [hg] at h3
            exact absurd (Option.some.inj h3).symm (old g' m hf hmk)
          · exact h.fs1 g' m hf hmk f h1 (by omega) h3 h4
      · by_cases c : m = k
        · subst c; exact h.hi m (Nat.le_refl _)
        · exact h.fs2 g' m hf (by omega) (fun f h1 h2 h3 => hn f h1 (by omega) h3)
    | some m =>
      obtain ⟨hfm, hmk⟩ := (h.F g m).1 hF
      obtain ⟨hpm, hrm⟩ := invP_path h hfm hmk
      have hmL : m < L.length := by omega
      obtain ⟨L1, hL1⟩ : ∃ L1, L1 = if (gE s k).kind = 1 then L.set m (asReg (gE s m) (gE s k)) else L := ⟨_, rfl⟩
      have e : regS L F k = (L1.set k (asHard (gE s k) (gE s m).path), F) := by
        rw [regS, hLk, filV_grp, hg]
        simp only [hF, if_true]
        rw [hL1, ← hpm, ← hrm]
      have hl1 : L1.length = L.length := by rw [hL1]; split <;> simp
      have hk1 : k < L1.length := by omega
      have hg1 : ∀ j, j ≠ m → gE L1 j = gE L j := fun j hj => by
        rw [hL1]
        split
        · rw [gE_set hmL, if_neg (fun e => hj e.symm)]
        · rfl
      have hg2 : ∀ j, j ≠ m → j ≠ k → gE (L1.set k (asHard (gE s k) (gE s m).path)) j = gE L j := fun j h1 h2 => by
        rw [gE_set hk1, if_neg (fun e => h2 e.symm), hg1 j h1]
      have hgm : gE (L1.set k (asHard (gE s k) (gE s m).path)) m = gE L1 m := by rw [gE_set hk1, if_neg (by omega)]
      rw [e]
      refine ⟨by rw [List.length_set, hl1, h.len], fun j hj => ?_, fun g' m' => ?_, fun j hj => ?_, fun j hj g' m' hf hgj hm => ?_, fun g' m' hf hm f h1 h2 h3 h4 => ?_, fun g' m' hf hm hn => ?_⟩
      · rw [hg2 j (by omega) (by omega)]
        exact h.hi j (by omega)
      · rw [h.F]
        refine ⟨fun ⟨a, b⟩ => ⟨a, by omega⟩, fun ⟨a, b⟩ => ⟨a, ?_⟩⟩
        by_cases c : m' = k
        · subst c
          have := a.2.1
          rw [hg] at this
          obtain rfl := Option.some.inj this
          have := fstG_uni a hfm
          omega
        · omega
      · have h1 : j ≠ m := fun c => by subst c; have := hfm.2.1; rw [hj] at this; cases this
        have h2 : j ≠ k := fun c => by subst c; rw [hg] at hj; cases hj
        rw [hg2 j h1 h2]
        exact h.no j hj
      · by_cases c : j = k
        · subst c
          rw [hg] at hgj
          obtain rfl := Option.some.inj hgj
          rw [fstG_uni hf hfm, gE_set hk1, if_pos rfl]
        · have h1 : j ≠ m := fun c2 => by
            subst c2
            have := hfm.2.1
            rw [hgj] at this
            obtain rfl := Option.some.inj this
            have := fstG_uni hf hfm
            omega
          rw [hg2 j h1 c]
          exact h.non j (by omega) g' m' hf hgj hm
      · by_cases c : m' = m
        · subst c
          have hgg : g' = g := by
            have := hf.2.1
            rw [hfm.2.1] at this
            exact (Option.some.inj this).symm
          subst hgg
          rw [hgm]
          by_cases c2 : f = k
          · subst c2
            rw [hL1, if_pos h4, gE_set hmL, if_pos rfl]
          · have hk4 : (gE s k).kind ≠ 1 := fun h5 => c2 (file_uni hG (by omega) hk h3 hg h4 h5)
            rw [hL1, if_neg hk4]
            exact h.fs1 g' m' hf hmk f h1 (by omega) h3 h4
        · have hmk' : m' < k := by
            by_cases c3 : m' = k
            · omega
            · omega
          have hgg : g' ≠ g := fun e2 => by subst e2; exact c (fstG_uni hf hfm)
          rw [hg2 m' c (by omega)]
          by_cases c2 : f = k
          · subst c2
            rw [hg] at h3
            exact absurd (Option.some.inj h3).symm hgg
          · exact h.fs1 g' m' hf hmk' f h1 (by omega) h3 h4
      · by_cases c : m' = m
        · subst c
          have hgg : g' = g := by
            have := hf.2.1
            rw [hfm.2.1] at this
            exact (Option.some.inj this).symm
          subst hgg
          have hk4 : (gE s k).kind ≠ 1 := hn k hmk (by omega) hg
          rw [hgm, hL1, if_neg hk4]
          exact h.fs2 g' m' hf hmk (fun f h1 h2 h3 => hn f h1 (by omega) h3)
        · have hmk' : m' < k := by
            by_cases c3 : m' = k
            · subst c3
              have := hf.2.1
              rw [hg] at this
              obtain rfl := Option.some.inj this
              exact absurd (fstG_uni hf hfm) c
            · omega
          rw [hg2 m' c (by omega)]
          exact h.fs2 g' m' hf hmk' (fun f h1 h2 h3 => hn f h1 (by omega) h3)
theorem invP_all {s : List Ent} (hG : Good s) : ∀ k, k ≤ s.length → InvP s (regL s k).1 (regL s k).2 k
  | 0, _ => ⟨rfl, fun _ _ => rfl, fun g m => by simp [regL, findF], fun _ _ => rfl, fun j hj => by omega, fun _ m _ hm => by omega, fun _ m _ hm => by omega⟩
  | k + 1, hk => invP_step hG (invP_all hG k (by omega)) (by omega)
end Go.Proofs.YtbmmdkbinlnogaaDoor.Aw
namespace Go.Proofs.YtbmmdkbinlnogaaDoor.Aw
open Go
set_option linter.unusedSimpArgs false
set_option linter.unusedVariables false
end Go.Proofs.YtbmmdkbinlnogaaDoor.Aw
namespace Go.Proofs.YtbmmdkbinlnogaaDoor.Aw
open Go
set_option linter.unusedSimpArgs false
set_option linter.unusedVariables false
set_option maxHeartbeats 1000000 in
set_option maxRecDepth 100000 in
theorem Canon_n [Tabs Tryd.prog] : Con Tryd.prog n_entry_Canon [.sl true (some 10) []] (.tup [.sl true (some 10) [], int 0]) := by
  refine Con.of' mix Tryd.func19 rfl Tryd.ntmps19 e_entry_Canon r_entry_Canon (by simp) rfl rfl ?_
  unfold s_entry_Canon
  repeat (first | refine wA ?_ | refine wB ?_ | refine wC rfl ?_ | refine wD rfl ?_ | refine wE ?_ | refine wF (by omega) ?_ | ((first | refine wG ?_ | refine wH ?_ | refine wI ?_ | refine wJ ?_ | refine wK ?_ | refine wL ?_); simp (disch := omega) only [wP, wZ, undef, UInt8.reduceToNat, Nat.reduceOr, Nat.reduceAnd, Nat.reduceXor, Nat.reduceDiv, if_pos, if_neg, aStore, frz, AV.flat, ↓reduceIte, ne_eq, reduceCtorEq, Int.reduceToNat, Nat.reduceEqDiff, Nat.reduceAdd, Nat.reduceSub, Nat.reduceMul, Int.reduceAdd, Int.reduceMul, Int.reduceSub, Int.reduceLT, Int.reduceLE, Int.reduceEq, Int.reduceNe, Nat.reduceLeDiff, Nat.reduceLT, Int.reduceNeg, Nat.reducePow, Nat.reduceMod, ByteArray.size]))
  refine goC_p _ (.inl ⟨rfl, CheckAll_c caOk true [] (by simp) (by simp)⟩) ?_
  have h0 : chkAll [] = (0, 0) := rfl
  rw [h0]
  repeat (first | refine wA ?_ | refine wB ?_ | refine wC rfl ?_ | refine wD rfl ?_ | refine wE ?_ | refine wF (by omega) ?_ | ((first | refine wG ?_ | refine wH ?_ | refine wI ?_ | refine wJ ?_ | refine wK ?_ | refine wL ?_); simp (disch := omega) only [wP, wZ, undef, UInt8.reduceToNat, Nat.reduceOr, Nat.reduceAnd, Nat.reduceXor, Nat.reduceDiv, if_pos, if_neg, aStore, frz, AV.flat, ↓reduceIte, ne_eq, reduceCtorEq, Int.reduceToNat, Nat.reduceEqDiff, Nat.reduceAdd, Nat.reduceSub, Nat.reduceMul, Int.reduceAdd, Int.reduceMul, Int.reduceSub, Int.reduceLT, Int.reduceLE, Int.reduceEq, Int.reduceNe, Nat.reduceLeDiff, Nat.reduceLT, Int.reduceNeg, Nat.reducePow, Nat.reduceMod, ByteArray.size]))
  refine goC_p _ (.inl ⟨rfl, Copy_n⟩) ?_
  iterate 2 (first | refine wA ?_ | refine wB ?_ | refine wC rfl ?_ | refine wD rfl ?_ | refine wE ?_ | refine wF (by omega) ?_ | ((first | refine wG ?_ | refine wH ?_ | refine wI ?_ | refine wJ ?_ | refine wK ?_ | refine wL ?_); simp (disch := omega) only [wP, wZ, undef, UInt8.reduceToNat, Nat.reduceOr, Nat.reduceAnd, Nat.reduceXor, Nat.reduceDiv, if_pos, if_neg, aStore, frz, AV.flat, ↓reduceIte, ne_eq, reduceCtorEq, Int.reduceToNat, Nat.reduceEqDiff, Nat.reduceAdd, Nat.reduceSub, Nat.reduceMul, Int.reduceAdd, Int.reduceMul, Int.reduceSub, Int.reduceLT, Int.reduceLE, Int.reduceEq, Int.reduceNe, Nat.reduceLeDiff, Nat.reduceLT, Int.reduceNeg, Nat.reducePow, Nat.reduceMod, ByteArray.size]))
  refine SWp.adopt 6 (some 10) (by simp (disch := omega) only [wP, wZ, undef, UInt8.reduceToNat, Nat.reduceOr, Nat.reduceAnd, Nat.reduceXor, Nat.reduceDiv, if_pos, if_neg, aStore, frz, AV.flat, ↓reduceIte, ne_eq, reduceCtorEq, Int.reduceToNat, Nat.reduceEqDiff, Nat.reduceAdd, Nat.reduceSub, Nat.reduceMul, Int.reduceAdd, Int.reduceMul, Int.reduceSub, Int.reduceLT, Int.reduceLE, Int.reduceEq, Int.reduceNe, Nat.reduceLeDiff, Nat.reduceLT, Int.reduceNeg, Nat.reducePow, Nat.reduceMod, ByteArray.size]) ?_
  repeat (first | refine wA ?_ | refine wB ?_ | refine wC rfl ?_ | refine wD rfl ?_ | refine wE ?_ | refine wF (by omega) ?_ | ((first | refine wG ?_ | refine wH ?_ | refine wI ?_ | refine wJ ?_ | refine wK ?_ | refine wL ?_); simp (disch := omega) only [wP, wZ, undef, UInt8.reduceToNat, Nat.reduceOr, Nat.reduceAnd, Nat.reduceXor, Nat.reduceDiv, if_pos, if_neg, aStore, frz, AV.flat, ↓reduceIte, ne_eq, reduceCtorEq, Int.reduceToNat, Nat.reduceEqDiff, Nat.reduceAdd, Nat.reduceSub, Nat.reduceMul, Int.reduceAdd, Int.reduceMul, Int.reduceSub, Int.reduceLT, Int.reduceLE, Int.reduceEq, Int.reduceNe, Nat.reduceLeDiff, Nat.reduceLT, Int.reduceNeg, Nat.reducePow, Nat.reduceMod, ByteArray.size]))
  have h2 : HCon Tryd.prog n_slices_SortFuncapi_Entryapi_Entry [.own 1000 0 (some 10) 0 0, .sc (.func (.func n_entry_Canon_1) #[] #[])] [.row true []] (.tup []) [(1000, 0, .row true [])] 1 := SortFunc_h true [] (by simp) (by simp) (by simp)
  refine goC_h [(6, 0)] 300 h2 (by simp) (by simp) (by simp (disch := omega) only [wP, wZ, undef, UInt8.reduceToNat, Nat.reduceOr, Nat.reduceAnd, Nat.reduceXor, Nat.reduceDiv, if_pos, if_neg, aStore, frz, AV.flat, ↓reduceIte, ne_eq, reduceCtorEq, Int.reduceToNat, Nat.reduceEqDiff, Nat.reduceAdd, Nat.reduceSub, Nat.reduceMul, Int.reduceAdd, Int.reduceMul, Int.reduceSub, Int.reduceLT, Int.reduceLE, Int.reduceEq, Int.reduceNe, Nat.reduceLeDiff, Nat.reduceLT, Int.reduceNeg, Nat.reducePow, Nat.reduceMod, ByteArray.size, handOk, AO.ren, ren.renL]) (by simp (disch := omega) only [wP, wZ, undef, UInt8.reduceToNat, Nat.reduceOr, Nat.reduceAnd, Nat.reduceXor, Nat.reduceDiv, if_pos, if_neg, aStore, frz, AV.flat, ↓reduceIte, ne_eq, reduceCtorEq, Int.reduceToNat, Nat.reduceEqDiff, Nat.reduceAdd, Nat.reduceSub, Nat.reduceMul, Int.reduceAdd, Int.reduceMul, Int.reduceSub, Int.reduceLT, Int.reduceLE, Int.reduceEq, Int.reduceNe, Nat.reduceLeDiff, Nat.reduceLT, Int.reduceNeg, Nat.reducePow, Nat.reduceMod, ByteArray.size, ren.renL, ren, rho, handed]) ?_
  repeat (first | refine wA ?_ | refine wB ?_ | refine wC rfl ?_ | refine wD rfl ?_ | refine wE ?_ | refine wF (by omega) ?_ | ((first | refine wG ?_ | refine wH ?_ | refine wI ?_ | refine wJ ?_ | refine wK ?_ | refine wL ?_); simp (disch := omega) only [wP, wZ, undef, UInt8.reduceToNat, Nat.reduceOr, Nat.reduceAnd, Nat.reduceXor, Nat.reduceDiv, if_pos, if_neg, aStore, frz, AV.flat, ↓reduceIte, ne_eq, reduceCtorEq, Int.reduceToNat, Nat.reduceEqDiff, Nat.reduceAdd, Nat.reduceSub, Nat.reduceMul, Int.reduceAdd, Int.reduceMul, Int.reduceSub, Int.reduceLT, Int.reduceLE, Int.reduceEq, Int.reduceNe, Nat.reduceLeDiff, Nat.reduceLT, Int.reduceNeg, Nat.reducePow, Nat.reduceMod, ByteArray.size, ren.renL]))
  have h3 : HCon Tryd.prog n_entry_regroup [.own 1000 0 (some 10) 0 0] [.row true []] (.tup []) [(1000, 0, .row true [])] 2 := regroup_h true [] (by simp) (fun _ h => by cases h)
  refine goC_h [(6, 0)] 600 h3 (by simp) (by simp) (by simp (disch := omega) only [wP, wZ, undef, UInt8.reduceToNat, Nat.reduceOr, Nat.reduceAnd, Nat.reduceXor, Nat.reduceDiv, if_pos, if_neg, aStore, frz, AV.flat, ↓reduceIte, ne_eq, reduceCtorEq, Int.reduceToNat, Nat.reduceEqDiff, Nat.reduceAdd, Nat.reduceSub, Nat.reduceMul, Int.reduceAdd, Int.reduceMul, Int.reduceSub, Int.reduceLT, Int.reduceLE, Int.reduceEq, Int.reduceNe, Nat.reduceLeDiff, Nat.reduceLT, Int.reduceNeg, Nat.reducePow, Nat.reduceMod, ByteArray.size, handOk, AO.ren, ren.renL]) (by simp (disch := omega) only [wP, wZ, undef, UInt8.reduceToNat, Nat.reduceOr, Nat.reduceAnd, Nat.reduceXor, Nat.reduceDiv, if_pos, if_neg, aStore, frz, AV.flat, ↓reduceIte, ne_eq, reduceCtorEq, Int.reduceToNat, Nat.reduceEqDiff, Nat.reduceAdd, Nat.reduceSub, Nat.reduceMul, Int.reduceAdd, Int.reduceMul, Int.reduceSub, Int.reduceLT, Int.reduceLE, Int.reduceEq, Int.reduceNe, Nat.reduceLeDiff, Nat.reduceLT, Int.reduceNeg, Nat.reducePow, Nat.reduceMod, ByteArray.size, ren.renL, ren, rho, handed]) ?_
  repeat (first | refine wA ?_ | refine wB ?_ | refine wC rfl ?_ | refine wD rfl ?_ | refine wE ?_ | refine wF (by omega) ?_ | ((first | refine wG ?_ | refine wH ?_ | refine wI ?_ | refine wJ ?_ | refine wK ?_ | refine wL ?_); simp (disch := omega) only [wP, wZ, undef, UInt8.reduceToNat, Nat.reduceOr, Nat.reduceAnd, Nat.reduceXor, Nat.reduceDiv, if_pos, if_neg, aStore, frz, AV.flat, ↓reduceIte, ne_eq, reduceCtorEq, Int.reduceToNat, Nat.reduceEqDiff, Nat.reduceAdd, Nat.reduceSub, Nat.reduceMul, Int.reduceAdd, Int.reduceMul, Int.reduceSub, Int.reduceLT, Int.reduceLE, Int.reduceEq, Int.reduceNe, Nat.reduceLeDiff, Nat.reduceLT, Int.reduceNeg, Nat.reducePow, Nat.reduceMod, ByteArray.size, ren.renL]))
theorem Canon_c [Tabs Tryd.prog] (nl : Bool) (l : List Ent) (hnl : nl = true → l = []) (hl : l.length ≤ 1000000) (hs : ∀ e ∈ l, entS e ∧ entI e) (hn : nlOk l) : Con Tryd.prog n_entry_Canon [.sl nl (some 10) (l.map entV)] (canV nl l) := by
  cases nl
  · exact Canon_f l hl hs hn
  · obtain rfl := hnl rfl
    exact Canon_n
end Go.Proofs.YtbmmdkbinlnogaaDoor.Aw
namespace Go.Proofs.YtbmmdkbinlnogaaDoor.Aw
open Go
set_option linter.unusedSimpArgs false
set_option linter.unusedVariables false
def SubA (x y : AV) : Prop := ∀ G w v, Rd G w x v → Rd G w y v
def SubL (xs ys : List AV) : Prop := ∀ G w vs, RdL G w xs vs → RdL G w ys vs
theorem SubA.refl (x : AV) : SubA x x := fun _ _ _ h => h
theorem SubL.nil : SubL [] [] := fun _ _ _ h => h
theorem SubL.refl (xs : List AV) : SubL xs xs := fun _ _ _ h => h
theorem SubL.cons {x y : AV} {xs ys : List AV} (h : SubA x y) (hs : SubL xs ys) : SubL (x :: xs) (y :: ys) := by
  intro G w vs hr
  simp only [RdL] at hr ⊢
  obtain ⟨v, r, rfl, h1, h2⟩ := hr
  exact ⟨v, r, rfl, h G w v h1, hs G w r h2⟩
theorem SubA.agg {xs ys : List AV} (h : SubL xs ys) : SubA (.agg xs) (.agg ys) := by
  intro G w v hr
  simp only [Rd] at hr ⊢
  obtain ⟨cs, rfl, h1, h2⟩ := hr
  exact ⟨cs, rfl, h G w cs h1, h2⟩
theorem SubA.sl {nl : Bool} {es : Option Nat} {xs ys : List AV} (h : SubL xs ys) : SubA (.sl nl es xs) (.sl nl es ys) := by
  intro G w v hr
  simp only [Rd] at hr ⊢
  obtain ⟨base, len, cap, vs, h1, h2, h3, h4, h5⟩ := hr
  exact ⟨base, len, cap, vs, h1, h2, h3, h G w vs h4, h5⟩
theorem SubA.nil {es : Option Nat} : SubA (.sc (.slice none 0 0)) (.sl true es []) := by
  intro G w v hr
  simp only [Rd] at hr ⊢
  subst hr
  exact ⟨none, 0, 0, [], rfl, rfl, Nat.le_refl _, by simp [RdL], by simp, fun _ => rfl, fun a h => by cases h⟩
theorem SubA.ent {a b c d e f g h i x y : AV} (hx : SubA x y) : SubA (.agg [a, b, c, d, e, f, g, h, i, x]) (.agg [a, b, c, d, e, f, g, h, i, y]) :=
  SubA.agg (.cons (.refl _) (.cons (.refl _) (.cons (.refl _) (.cons (.refl _) (.cons (.refl _) (.cons (.refl _) (.cons (.refl _) (.cons (.refl _) (.cons (.refl _) (.cons hx .nil))))))))))
theorem Con.sub {P : Program} [Tabs P] {f : Nat} {ins ins' : List AV} {out : AV} (h : Con P f ins' out) (hs : SubL ins ins') : Con P f ins out :=
  fun w S vs a b c => h w S vs a b (hs _ _ _ c)
end Go.Proofs.YtbmmdkbinlnogaaDoor.Aw
namespace Go.Proofs.YtbmmdkbinlnogaaDoor.Aw
open Go
set_option linter.unusedSimpArgs false
set_option linter.unusedVariables false
def awA : Ent := ⟨[98], 1, 0, 0, 0, [], [], 0, [], false, [120]⟩
def awB : Ent := ⟨[97], 4, 0, 0, 0, [], [], 0, [98], true, []⟩
theorem aw_chk : chkAll [awA, awB] = (0, 0) := by decide
theorem aw_can : canP [awA, awB] = [⟨[97], 1, 0, 0, 0, [], [], 0, [], false, [120]⟩, ⟨[98], 4, 0, 0, 0, [], [], 0, [97], true, []⟩] := by rfl
def awC : Ent := ⟨[97], 1, 0, 0, 0, [], [], 0, [], true, []⟩
def awD : Ent := ⟨[97, 47, 98], 1, 0, 0, 0, [], [], 0, [], true, []⟩
theorem aw_bad : chkAll [awC, awD] = (1, 9) := by decide
theorem aw_ok1 : ∀ e ∈ [awA, awB], entS e ∧ entI e := by
  intro e he
  simp only [List.mem_cons, List.not_mem_nil, or_false] at he
  rcases he with rfl | rfl <;> exact ⟨⟨by decide, by decide, by decide, by decide, by decide⟩, by simp [awA, awB, entI, inI]⟩
theorem aw_ok2 : ∀ e ∈ [awC, awD], entS e ∧ entI e := by
  intro e he
  simp only [List.mem_cons, List.not_mem_nil, or_false] at he
  rcases he with rfl | rfl <;> exact ⟨⟨by decide, by decide, by decide, by decide, by decide⟩, by simp [awC, awD, entI, inI]⟩
theorem aw_nl1 : nlOk [awA, awB] := by
  intro e he
  simp only [List.mem_cons, List.not_mem_nil, or_false] at he
  rcases he with rfl | rfl <;> simp [awA, awB]
set_option maxHeartbeats 1000000 in
set_option maxRecDepth 100000 in
theorem awake7_c [Tabs Tryd.prog] : Con Tryd.prog n_drayagelaw07_awake [] (boo true) := by
  refine Con.of' mix Tryd.func9 rfl Tryd.ntmps9 e_drayagelaw07_awake r_drayagelaw07_awake (by simp) rfl rfl ?_
  unfold s_drayagelaw07_awake
  repeat (first | refine wA ?_ | refine wB ?_ | refine wC rfl ?_ | refine wD rfl ?_ | refine wE ?_ | refine wF (by omega) ?_ | ((first | refine wG ?_ | refine wH ?_ | refine wI ?_ | refine wJ ?_ | refine wK ?_ | refine wL ?_); simp (disch := omega) only [wP, wZ, undef, UInt8.reduceToNat, Nat.reduceOr, Nat.reduceAnd, Nat.reduceXor, Nat.reduceDiv, if_pos, if_neg, aStore, frz, AV.flat, ↓reduceIte, ne_eq, reduceCtorEq, Int.reduceToNat, Nat.reduceEqDiff, Nat.reduceAdd, Nat.reduceSub, Nat.reduceMul, Int.reduceAdd, Int.reduceMul, Int.reduceSub, Int.reduceLT, Int.reduceLE, Int.reduceEq, Int.reduceNe, Nat.reduceLeDiff, Nat.reduceLT, Int.reduceNeg, Nat.reducePow, Nat.reduceMod, ByteArray.size]))
  refine ⟨⟨⟨_, rfl, rfl⟩, ⟨_, rfl, rfl⟩⟩, ?_⟩
  have c1 : Con Tryd.prog n_entry_Canon [.sl false (some 10) [entV awA, .agg [str [97], int 4, int 0, int 0, int 0, str [], str [], int 0, str [98], .sc (.slice none 0 0)]]] (.tup [.sl false (some 10) ((canP [awA, awB]).map entV), int 0]) := by
    have h := Canon_c false [awA, awB] (by simp) (by simp) aw_ok1 aw_nl1
    rw [canV, aw_chk, if_pos rfl] at h
    exact Con.sub h (.cons (.sl (.cons (.refl _) (.cons (.ent .nil) .nil))) .nil)
  rw [aw_can] at c1
  refine goC_f 10 1 [.sl false (some 10) [entV awA, .agg [str [97], int 4, int 0, int 0, int 0, str [], str [], int 0, str [98], .sc (.slice none 0 0)]]] _ rfl rfl rfl rfl c1 ?_
  repeat (first | refine wA ?_ | refine wB ?_ | refine wC rfl ?_ | refine wD rfl ?_ | refine wE ?_ | refine wF (by omega) ?_ | ((first | refine wG ?_ | refine wH ?_ | refine wI ?_ | refine wJ ?_ | refine wK ?_ | refine wL ?_); simp (disch := omega) only [wP, wZ, undef, UInt8.reduceToNat, Nat.reduceOr, Nat.reduceAnd, Nat.reduceXor, Nat.reduceDiv, if_pos, if_neg, aStore, frz, AV.flat, ↓reduceIte, ne_eq, reduceCtorEq, Int.reduceToNat, Nat.reduceEqDiff, Nat.reduceAdd, Nat.reduceSub, Nat.reduceMul, Int.reduceAdd, Int.reduceMul, Int.reduceSub, Int.reduceLT, Int.reduceLE, Int.reduceEq, Int.reduceNe, Nat.reduceLeDiff, Nat.reduceLT, Int.reduceNeg, Nat.reducePow, Nat.reduceMod, ByteArray.size]))
  refine ⟨⟨⟨_, rfl, rfl⟩, ⟨_, rfl, rfl⟩⟩, ?_⟩
  have c2 : Con Tryd.prog n_entry_CheckAll [.sl false (some 10) [.agg [str [97], int 1, int 0, int 0, int 0, str [], str [], int 0, str [], .sc (.slice none 0 0)], .agg [str [97, 47, 98], int 1, int 0, int 0, int 0, str [], str [], int 0, str [], .sc (.slice none 0 0)]]] (.tup [int 1, int 9]) := by
    have h := CheckAll_c caOk false [awC, awD] (by simp) aw_ok2
    rw [aw_bad] at h
    exact Con.sub h (.cons (.sl (.cons (.ent .nil) (.cons (.ent .nil) .nil))) .nil)
  refine goC_f 17 2 [.sl false (some 10) [.agg [str [97], int 1, int 0, int 0, int 0, str [], str [], int 0, str [], .sc (.slice none 0 0)], .agg [str [97, 47, 98], int 1, int 0, int 0, int 0, str [], str [], int 0, str [], .sc (.slice none 0 0)]]] _ rfl rfl rfl rfl c2 ?_
  iterate 2 (first | refine wA ?_ | refine wB ?_ | refine wC rfl ?_ | refine wD rfl ?_ | refine wE ?_ | refine wF (by omega) ?_ | ((first | refine wG ?_ | refine wH ?_ | refine wI ?_ | refine wJ ?_ | refine wK ?_ | refine wL ?_); simp (disch := omega) only [wP, wZ, undef, UInt8.reduceToNat, Nat.reduceOr, Nat.reduceAnd, Nat.reduceXor, Nat.reduceDiv, if_pos, if_neg, aStore, frz, AV.flat, ↓reduceIte, ne_eq, reduceCtorEq, Int.reduceToNat, Nat.reduceEqDiff, Nat.reduceAdd, Nat.reduceSub, Nat.reduceMul, Int.reduceAdd, Int.reduceMul, Int.reduceSub, Int.reduceLT, Int.reduceLE, Int.reduceEq, Int.reduceNe, Nat.reduceLeDiff, Nat.reduceLT, Int.reduceNeg, Nat.reducePow, Nat.reduceMod, ByteArray.size]))
  refine SWp.le (st' := mk 72 3 [(1, .sl false (some 10) [.agg [str [97], int 1, int 0, int 0, int 0, str [], str [], int 0, str [], .sl false none [u8 120]], .agg [str [98], int 4, int 0, int 0, int 0, str [], str [], int 0, str [97], .sl true none []]]), (2, int 0), (3, int 1), (4, int 9)] []) (le_mk rfl ?_ ?_ ?_) ?_
  · exact Nat.le_refl _
  iterate 2 (case _ => simp (disch := omega) only [wP, wZ, undef, UInt8.reduceToNat, Nat.reduceOr, Nat.reduceAnd, Nat.reduceXor, Nat.reduceDiv, if_pos, if_neg, aStore, frz, AV.flat, ↓reduceIte, ne_eq, reduceCtorEq, Int.reduceToNat, Nat.reduceEqDiff, Nat.reduceAdd, Nat.reduceSub, Nat.reduceMul, Int.reduceAdd, Int.reduceMul, Int.reduceSub, Int.reduceLT, Int.reduceLE, Int.reduceEq, Int.reduceNe, Nat.reduceLeDiff, Nat.reduceLT, Int.reduceNeg, Nat.reducePow, Nat.reduceMod, ByteArray.size, entV, entL, List.map_cons, List.map_nil])
  have hu : unu8 (.sc (.int .u8 120)) = 120 := rfl
  have hu2 : ((120 : UInt8).toNat : Int) = 120 := rfl
  repeat (first | refine wA ?_ | refine wB ?_ | refine wC rfl ?_ | refine wD rfl ?_ | refine wE ?_ | refine wF (by omega) ?_ | ((first | refine wG ?_ | refine wH ?_ | refine wI ?_ | refine wJ ?_ | refine wK ?_ | refine wL ?_); simp (maxSteps := 4000000) (disch := omega) only [wP, wZ, undef, UInt8.reduceToNat, Nat.reduceOr, Nat.reduceAnd, Nat.reduceXor, Nat.reduceDiv, if_pos, if_neg, aStore, frz, AV.flat, ↓reduceIte, ne_eq, reduceCtorEq, Int.reduceToNat, Nat.reduceEqDiff, Nat.reduceAdd, Nat.reduceSub, Nat.reduceMul, Int.reduceAdd, Int.reduceMul, Int.reduceSub, Int.reduceLT, Int.reduceLE, Int.reduceEq, Int.reduceNe, Nat.reduceLeDiff, Nat.reduceLT, Int.reduceNeg, Nat.reducePow, Nat.reduceMod, ByteArray.size, boo, hu, hu2]))
end Go.Proofs.YtbmmdkbinlnogaaDoor.Aw
namespace Go.Proofs.YtbmmdkbinlnogaaDoor.Aw
open Go
set_option linter.unusedSimpArgs false
set_option linter.unusedVariables false
abbrev EnT := List UInt8 × Int × Int × Int × Int × List UInt8 × List UInt8 × Int × List UInt8 × (Bool × List UInt8) × Unit
def enOf (a : EnT) : Ent := ⟨a.1, a.2.1, a.2.2.1, a.2.2.2.1, a.2.2.2.2.1, a.2.2.2.2.2.1, a.2.2.2.2.2.2.1, a.2.2.2.2.2.2.2.1, a.2.2.2.2.2.2.2.2.1, a.2.2.2.2.2.2.2.2.2.1.1, a.2.2.2.2.2.2.2.2.2.1.2⟩
abbrev iR64 (n : Int) : Prop := IntKind.i64.min ≤ n ∧ n ≤ IntKind.i64.max
abbrev enR (a : EnT) : Prop := a.1.length ≤ maxLen ∧ iR64 a.2.1 ∧ iR64 a.2.2.1 ∧ iR64 a.2.2.2.1 ∧ iR64 a.2.2.2.2.1 ∧ a.2.2.2.2.2.1.length ≤ maxLen ∧ a.2.2.2.2.2.2.1.length ≤ maxLen ∧ iR64 a.2.2.2.2.2.2.2.1 ∧ a.2.2.2.2.2.2.2.2.1.length ≤ maxLen ∧ (a.2.2.2.2.2.2.2.2.2.1.2.length ≤ maxLen ∧ (a.2.2.2.2.2.2.2.2.2.1.1 = true → a.2.2.2.2.2.2.2.2.2.1.2 = []) ∧ ∀ c ∈ a.2.2.2.2.2.2.2.2.2.1.2, True) ∧ True
theorem enR_B {a : EnT} (h : enR a) : entB (enOf a) ∧ entI (enOf a) ∧ ((enOf a).nl = true → (enOf a).data = []) := by
  obtain ⟨h1, h2, h3, h4, h5, h6, h7, h8, h9, ⟨h10, h11, -⟩, -⟩ := h
  have e : maxLen ≤ 9223372036854775807 := by decide
  refine ⟨⟨Nat.le_trans h1 e, Nat.le_trans h9 e, Nat.le_trans h6 e, Nat.le_trans h7 e, Nat.le_trans h10 e⟩, ⟨?_, ?_, ?_, ?_⟩, h11⟩
  · exact ⟨h3.1, h3.2⟩
  · exact ⟨h4.1, h4.2⟩
  · exact ⟨h5.1, h5.2⟩
  · exact ⟨h8.1, h8.2⟩
theorem light_S {l : List Ent} {c m : Nat} (hm : m ≤ 100000) (h : lightV l c m = true) : l.length ≤ c ∧ ∀ e ∈ l, entS e := by
  rw [lightV, Bool.and_eq_true, decide_eq_true_eq, decide_eq_true_eq] at h
  refine ⟨h.1, fun e he => ?_⟩
  obtain ⟨h1, h2, h3, h4, h5⟩ := wgt_le (lrun_all h.2 e he)
  exact ⟨by omega, by omega, by omega, by omega, by omega⟩
theorem map_enOf {l : List EnT} : (l.map fun a => entV (enOf a)) = (l.map enOf).map entV := by simp
theorem enR_all {l : List EnT} (h : ∀ a ∈ l, enR a) : (∀ e ∈ l.map enOf, entB e) ∧ (∀ e ∈ l.map enOf, entI e) ∧ nlOk (l.map enOf) := by
  refine ⟨fun e he => ?_, fun e he => ?_, fun e he => ?_⟩
  all_goals
    obtain ⟨a, ha, rfl⟩ := List.mem_map.1 he
    have := enR_B (h a ha)
  · exact this.1
  · exact this.2.1
  · exact this.2.2
end Go.Proofs.YtbmmdkbinlnogaaDoor.Aw
namespace Go.Proofs.YtbmmdkbinlnogaaDoor.Aw
open Go
set_option linter.unusedSimpArgs false
set_option linter.unusedVariables false
theorem alike_self {e : Ent} : alikeB e e = true := by simp [alikeB]
theorem samB_self {e : Ent} : samB e e = true := by simp [samB, alike_self]
theorem sameL_of : ∀ {l r : List Ent}, l.length = r.length → (∀ i, i < l.length → samB (gE l i) (gE r i) = true) → sameL l r = true
  | [], [], _, _ => rfl
  | [], _ :: _, h, _ => by simp at h
  | _ :: _, [], h, _ => by simp at h
  | a :: l, b :: r, h, H => by
    have h0 := H 0 (by simp)
    have ih := sameL_of (l := l) (r := r) (by simpa using h) (fun i hi => by have := H (i + 1) (by simpa using hi); simpa [gE] using this)
    rw [sameL, ih, Bool.and_true]
    simpa [gE] using h0
theorem chk_arg {e : Ent} (h : chk e = 0) : pathOk e.path = true ∧ kindOk e = true ∧ numFit e = true ∧ (ownOk e.owner && ownOk e.group) = true ∧ linkOk e = true ∧ argOk e = true ∧ e.data.length ≤ 1048576 := by
  unfold chk at h
  by_cases c1 : pathOk e.path = true
  case neg => rw [if_neg c1] at h; exact absurd h (by decide)
  rw [if_pos c1] at h
  by_cases c2 : kindOk e = true
  case neg => rw [if_neg c2] at h; exact absurd h (by decide)
  rw [if_pos c2] at h
  by_cases c3 : numFit e = true
  case neg => rw [if_neg c3] at h; exact absurd h (by decide)
  rw [if_pos c3] at h
  by_cases c4 : (ownOk e.owner && ownOk e.group) = true
  case neg => rw [if_neg c4] at h; exact absurd h (by decide)
  rw [if_pos c4] at h
  by_cases c5 : linkOk e = true
  case neg => rw [if_neg c5] at h; exact absurd h (by decide)
  rw [if_pos c5] at h
  by_cases c6 : argOk e = true
  case neg => rw [if_neg c6] at h; exact absurd h (by decide)
  rw [if_pos c6] at h
  by_cases c7 : e.data.length ≤ 1048576
  case neg => rw [if_neg c7] at h; exact absurd h (by decide)
  exact ⟨c1, c2, c3, c4, c5, c6, c7⟩
theorem bad_chk {M : List Ent} {e : Ent} (h : badE M e = 0) : chk e = 0 := by
  rw [badE] at h
  by_cases c : chk e = 0
  · exact c
  · rw [if_neg c] at h
    exact absurd h c
theorem fileAt_some {p : List UInt8} {l : List Ent} {f : Ent} (h : fileAt p l = some f) : f ∈ l ∧ f.path = p := by
  unfold fileAt at h
  by_cases c : posOf p l < 0
  · rw [if_pos c] at h; cases h
  · rw [if_neg c] at h
    have h2 := posOf_findE (p := p) (l := l)
    have : fileAt p l = some f := by unfold fileAt; rw [if_neg c]; exact h
    rw [h2.2] at this
    exact ⟨findE_mem this, findE_path this⟩
theorem bad_file {M : List Ent} {e : Ent} (h : badE M e = 0) (hk : e.kind = 4) : ∃ f ∈ M, f.kind = 1 ∧ f.path = e.link := by
  have hc := bad_chk h
  rw [badE, if_pos hc] at h
  by_cases c : posOf e.path M < 0
  case neg => rw [if_neg c] at h; exact absurd h (by decide)
  rw [if_pos c, if_pos hk] at h
  cases hf : fileAt e.link M with
  | none => rw [hf] at h; exact absurd h (show ¬ (15 : Int) = 0 by decide)
  | some f =>
    rw [hf] at h
    obtain ⟨h1, h2⟩ := fileAt_some hf
    by_cases d : f.kind = 1
    · exact ⟨f, h1, d, h2⟩
    · simp only [if_neg d] at h
      exact absurd h (show ¬ (15 : Int) = 0 by decide)
theorem good_sort {l : List Ent} (h : (chkAll l).2 = 0) : Good (sortE l) := by
  have hnd := ok_nodup h
  obtain ⟨-, hb⟩ := chkAll_ok.1 h
  have hmem : ∀ i, i < (sortE l).length → ∃ k, ∃ hk : k < l.length, gE (sortE l) i = l[k] := fun i hi => by
    have h1 : gE (sortE l) i ∈ l := mem_sortE.1 (getD_mem hi)
    obtain ⟨k, hk, e⟩ := List.mem_iff_getElem.1 h1
    exact ⟨k, hk, e.symm⟩
  have hs := sortE_srt hnd
  refine ⟨fun i j hi hj e => ?_, fun i hi hk => ?_, fun i hi hk => ?_, fun i hi hk => ?_⟩
  · have g : ∀ i (hi : i < (sortE l).length), gE (sortE l) i = (sortE l)[i] := fun i hi => by simp [gE, List.getD, List.getElem?_eq_getElem hi]
    rw [g i hi, g j hj] at e
    have hp := List.pairwise_iff_getElem.1 hs
    rcases Nat.lt_trichotomy i j with c | c | c
    · have := hp i j hi hj c
      rw [e, ltB_irrefl] at this
      cases this
    · exact c
    · have := hp j i hj hi c
      rw [e, ltB_irrefl] at this
      cases this
  · obtain ⟨k, hk', e⟩ := hmem i hi
    rw [e] at hk ⊢
    have := (chk_arg (bad_chk (hb k hk'))).2.2.2.2.2.1
    rw [argOk, hk] at this
    simpa using this
  · obtain ⟨k, hk', e⟩ := hmem i hi
    rw [e] at hk ⊢
    have := (chk_arg (bad_chk (hb k hk'))).2.2.2.2.2.1
    rw [argOk, hk] at this
    simpa using this
  · obtain ⟨k, hk', e⟩ := hmem i hi
    rw [e] at hk ⊢
    obtain ⟨f, h1, h2, h3⟩ := bad_file (hb k hk') hk
    have h4 : f ∈ sortE l := mem_sortE.2 (List.mem_of_mem_take h1)
    obtain ⟨q, hq, eq⟩ := List.mem_iff_getElem.1 h4
    refine ⟨q, hq, ?_⟩
    have : gE (sortE l) q = f := by simp [gE, List.getD, List.getElem?_eq_getElem hq, eq]
    rw [this]
    exact ⟨h2, h3⟩
structure Cl (Q : Ent → Prop) : Prop where
  reg : ∀ e f, Q e → Q f → Q (asReg e f)
  hard : ∀ e f, Q e → Q f → Q (asHard e f.path)
  link : ∀ e f, Q e → Q f → Q { e with link := f.path }
theorem all_set {Q : Ent → Prop} {L : List Ent} {i : Nat} {e : Ent} (hL : ∀ e ∈ L, Q e) (he : Q e) : ∀ x ∈ L.set i e, Q x := by
  intro x h
  rcases List.mem_or_eq_of_mem_set h with h | rfl
  · exact hL x h
  · exact he
theorem regS_all {Q : Ent → Prop} (hQ : Cl Q) {L : List Ent} {F : Fi} {i : Nat} (hL : ∀ e ∈ L, Q e) (hi : i < L.length) (hF : ∀ p ∈ F, p.2 < L.length) : ∀ e ∈ (regS L F i).1, Q e := by
  unfold regS
  have he := hL _ (getD_mem hi)
  split
  · split
    · exact hL
    · rename_i m hm
      have hm' := hL _ (getD_mem (hF _ (findF_mem hm)))
      refine all_set ?_ (hQ.hard _ _ he hm')
      split
      · exact all_set hL (hQ.reg _ _ hm' he)
      · exact hL
  · exact hL
theorem regL_all {Q : Ent → Prop} (hQ : Cl Q) {l : List Ent} (h : ∀ e ∈ l, Q e) : ∀ k, k ≤ l.length → ∀ e ∈ (regL l k).1, Q e
  | 0, _ => h
  | k + 1, hk => by
    refine regS_all hQ (regL_all hQ h k (by omega)) (by rw [regL_len]; omega) fun p hp => ?_
    have := regL_lt k p hp
    rw [regL_len]
    omega
theorem canP_all {Q : Ent → Prop} (hQ : Cl Q) {l : List Ent} (h : ∀ e ∈ l, Q e) : ∀ e ∈ canP l, Q e :=
  regL_all hQ (fun e he => h e (mem_sortE.1 he)) l.length (by rw [sortE_length]; exact Nat.le_refl _)
theorem same_data {l r : List Ent} (h : sameL l r = true) : ∀ {n : Nat}, (∀ e ∈ l, e.data.length ≤ n) → ∀ e ∈ r, e.data.length ≤ n := by
  induction l generalizing r with
  | nil =>
    cases r with
    | nil => intro n _ e he; cases he
    | cons b r => simp [sameL] at h
  | cons a l ih =>
    cases r with
    | nil => simp [sameL] at h
    | cons b r =>
      intro n hl e he
      rw [sameL, Bool.and_eq_true] at h
      rcases List.mem_cons.1 he with rfl | he
      · have := h.1
        simp only [samB, Bool.and_eq_true, decide_eq_true_eq] at this
        rw [← this.2.2.2.2]
        exact hl a (by simp)
      · exact ih h.2 (fun e he => hl e (by simp [he])) e he
theorem clS : Cl fun e => entS e ∧ entI e where
  reg e f he hf := ⟨⟨he.1.1, he.1.2.1, he.1.2.2.1, by simp [asReg], hf.1.2.2.2.2⟩, he.2⟩
  hard e f he hf := ⟨⟨he.1.1, he.1.2.1, he.1.2.2.1, hf.1.1, by simp [asHard]⟩, he.2⟩
  link e f he hf := ⟨⟨he.1.1, he.1.2.1, he.1.2.2.1, hf.1.1, he.1.2.2.2.2⟩, he.2⟩
theorem clN : Cl fun e => e.nl = true → e.data = [] where
  reg e f he hf := hf
  hard e f he hf := fun _ => rfl
  link e f he hf := he
end Go.Proofs.YtbmmdkbinlnogaaDoor.Aw
namespace Go.Proofs.YtbmmdkbinlnogaaDoor.Aw
open Go
set_option linter.unusedSimpArgs false
set_option linter.unusedVariables false
theorem fits_comm {x y : Ent} : fitsB x y = fitsB y x := by
  unfold fitsB
  rw [Bool.or_comm]
theorem bad_clash {M : List Ent} {e : Ent} (h : badE M e = 0) : M.all (fitsB e) = true := by
  have hc := bad_chk h
  have key : clash M e = 0 → M.all (fitsB e) = true := fun h => by
    unfold clash at h
    by_cases c : M.all (fitsB e) = true
    · exact c
    · rw [if_neg c] at h; exact absurd h (by decide)
  rw [badE, if_pos hc] at h
  by_cases c : posOf e.path M < 0
  case neg => rw [if_neg c] at h; exact absurd h (by decide)
  rw [if_pos c] at h
  by_cases hk : e.kind = 4
  case neg => rw [if_neg hk] at h; exact key h
  rw [if_pos hk] at h
  cases hf : fileAt e.link M with
  | none => rw [hf] at h; exact absurd h (show ¬ (15 : Int) = 0 by decide)
  | some f =>
    rw [hf] at h
    dsimp only at h
    by_cases d : f.kind = 1
    · rw [if_pos d] at h
      by_cases d2 : alikeB f e = true
      · rw [if_pos d2] at h; exact key h
      · rw [if_neg d2] at h; exact absurd h (by decide)
    · rw [if_neg d] at h; exact absurd h (by decide)
theorem bad_alike {M : List Ent} {e : Ent} (h : badE M e = 0) (hk : e.kind = 4) : ∃ f ∈ M, f.kind = 1 ∧ f.path = e.link ∧ alikeB f e = true := by
  have hc := bad_chk h
  rw [badE, if_pos hc] at h
  by_cases c : posOf e.path M < 0
  case neg => rw [if_neg c] at h; exact absurd h (by decide)
  rw [if_pos c, if_pos hk] at h
  cases hf : fileAt e.link M with
  | none => rw [hf] at h; exact absurd h (show ¬ (15 : Int) = 0 by decide)
  | some f =>
    rw [hf] at h
    dsimp only at h
    obtain ⟨h1, h2⟩ := fileAt_some hf
    by_cases d : f.kind = 1
    · rw [if_pos d] at h
      by_cases d2 : alikeB f e = true
      · exact ⟨f, h1, d, h2, d2⟩
      · rw [if_neg d2] at h; exact absurd h (by decide)
    · rw [if_neg d] at h; exact absurd h (by decide)
structure OkS (l : List Ent) : Prop where
  len : l.length ≤ 4096
  chk : ∀ e ∈ l, chk e = 0
  nd : (l.map (·.path)).Nodup
  fit : ∀ x ∈ l, ∀ y ∈ l, x.path ≠ y.path → fitsB x y = true
  file : ∀ e ∈ l, e.kind = 4 → ∃ f ∈ l, f.kind = 1 ∧ f.path = e.link ∧ alikeB f e = true
theorem okS_of {l : List Ent} (h : (chkAll l).2 = 0) : OkS l := by
  have hnd := ok_nodup h
  obtain ⟨hl, hb⟩ := chkAll_ok.1 h
  refine ⟨hl, fun e he => ?_, hnd, fun x hx y hy hxy => ?_, fun e he hk => ?_⟩
  · obtain ⟨k, hk, rfl⟩ := List.mem_iff_getElem.1 he
    exact bad_chk (hb k hk)
  · obtain ⟨i, hi, rfl⟩ := List.mem_iff_getElem.1 hx
    obtain ⟨j, hj, rfl⟩ := List.mem_iff_getElem.1 hy
    have key : ∀ i j (hi : i < l.length) (hj : j < l.length), j < i → fitsB l[i] l[j] = true := fun i j hi hj hji =>
      List.all_eq_true.1 (bad_clash (hb i hi)) l[j] (by rw [List.mem_take_iff_getElem]; exact ⟨j, by omega, rfl⟩)
    rcases Nat.lt_trichotomy i j with c | c | c
    · rw [fits_comm]; exact key j i hj hi c
    · subst c; exact absurd rfl hxy
    · exact key i j hi hj c
  · obtain ⟨k, hk', rfl⟩ := List.mem_iff_getElem.1 he
    obtain ⟨f, h1, h2⟩ := bad_alike (hb k hk') hk
    exact ⟨f, List.mem_of_mem_take h1, h2⟩
theorem nd_inj {l : List Ent} (h : (l.map (·.path)).Nodup) {x y : Ent} (hx : x ∈ l) (hy : y ∈ l) (e : x.path = y.path) : x = y := by
  obtain ⟨i, hi, rfl⟩ := List.mem_iff_getElem.1 hx
  obtain ⟨j, hj, rfl⟩ := List.mem_iff_getElem.1 hy
  have hp := List.pairwise_iff_getElem.1 h
  rcases Nat.lt_trichotomy i j with c | c | c
  · have := hp i j (by simpa using hi) (by simpa using hj) c
    simp only [List.getElem_map] at this
    exact absurd e this
  · subst c; rfl
  · have := hp j i (by simpa using hj) (by simpa using hi) c
    simp only [List.getElem_map] at this
    exact absurd e.symm this
theorem findE_is {M : List Ent} (h : (M.map (·.path)).Nodup) {f : Ent} (hf : f ∈ M) : findE f.path M = some f := by
  cases c : findE f.path M with
  | none => exact absurd rfl (findE_none c f hf)
  | some x => rw [nd_inj h (findE_mem c) hf (findE_path c)]
theorem posOf_in {p : List UInt8} {M : List Ent} : 0 ≤ posOf p M ↔ ∃ f ∈ M, f.path = p := by
  constructor
  · intro h
    cases c : findE p M with
    | none => have := (posOf_findE (p := p) (l := M)).1.2 c; omega
    | some f => exact ⟨f, findE_mem c, findE_path c⟩
  · rintro ⟨f, hf, rfl⟩
    apply Decidable.byContradiction
    intro c
    have := (posOf_findE (p := f.path) (l := M)).1.1 (by omega)
    exact findE_none this f hf rfl
theorem ok_of {m : List Ent} (hl : m.length ≤ 4096) (hc : ∀ e ∈ m, chk e = 0) (hn : (m.map (·.path)).Nodup) (hf : ∀ x ∈ m, ∀ y ∈ m, x.path ≠ y.path → fitsB x y = true)
    (hfile : ∀ q (hq : q < m.length), m[q].kind = 4 → ∃ f ∈ m.take q, f.kind = 1 ∧ f.path = m[q].link ∧ alikeB f m[q] = true) : (chkAll m).2 = 0 := by
  refine chkAll_ok.2 ⟨hl, fun k hk => ?_⟩
  have hkm : m[k] ∈ m := List.getElem_mem hk
  have hne : ∀ x ∈ m.take k, x.path ≠ m[k].path := fun x hx e => by
    rw [List.mem_take_iff_getElem] at hx
    obtain ⟨j, hj, rfl⟩ := hx
    have hp := List.pairwise_iff_getElem.1 hn j k (by simp; omega) (by simpa using hk) (by omega)
    simp only [List.getElem_map] at hp
    exact hp e
  have hp : posOf m[k].path (m.take k) < 0 := by rw [posOf_none hne]; decide
  have hcl : clash (m.take k) m[k] = 0 := by
    rw [clash, if_pos]
    rw [List.all_eq_true]
    exact fun x hx => hf _ hkm x (List.mem_of_mem_take hx) (fun e => hne x hx e.symm)
  rw [badE, if_pos (hc _ hkm), if_pos hp]
  by_cases h4 : m[k].kind = 4
  · obtain ⟨f, h1, h2, h3, h5⟩ := hfile k hk h4
    have hn' : ((m.take k).map (·.path)).Nodup := by rw [List.map_take]; exact List.Nodup.sublist (List.take_sublist _ _) hn
    have he : fileAt m[k].link (m.take k) = some f := by rw [posOf_findE.2, ← h3]; exact findE_is hn' h1
    rw [if_pos h4, he]
    dsimp only
    rw [if_pos h2, if_pos h5, hcl]
  · rw [if_neg h4, hcl]
def tnS (l T : List Ent) (k : Int) : List Ent :=
  if k < 0 then T else if (l.length : Int) ≤ k then T else if 0 ≤ posOf (gE l k.toNat).path T then T else if (gE l k.toNat).kind = 4 ∧ posOf (gE l k.toNat).link T < 0 then T else T ++ [gE l k.toNat]
def tnI (ord : List Int) (i : Nat) : Int := if i < ord.length then ord.getD i 0 else (i : Int) - ord.length
def tnL (l : List Ent) (ord : List Int) : Nat → List Ent
  | 0 => []
  | i + 1 => tnS l (tnL l ord i) (tnI ord i)
structure InvT (l T : List Ent) : Prop where
  sub : ∀ e ∈ T, e ∈ l
  nd : (T.map (·.path)).Nodup
  lnk : ∀ q (hq : q < T.length), T[q].kind = 4 → ∃ f ∈ T.take q, f.path = T[q].link
theorem invT_step {l T : List Ent} (h : InvT l T) (k : Int) : InvT l (tnS l T k) := by
  unfold tnS
  by_cases c1 : k < 0
  · rw [if_pos c1]; exact h
  rw [if_neg c1]
  by_cases c2 : (l.length : Int) ≤ k
  · rw [if_pos c2]; exact h
  rw [if_neg c2]
  by_cases c3 : 0 ≤ posOf (gE l k.toNat).path T
  · rw [if_pos c3]; exact h
  rw [if_neg c3]
  by_cases c4 : (gE l k.toNat).kind = 4 ∧ posOf (gE l k.toNat).link T < 0
  · rw [if_pos c4]; exact h
  rw [if_neg c4]
  have hm : gE l k.toNat ∈ l := getD_mem (by omega)
  refine ⟨fun e he => ?_, ?_, fun q hq hk => ?_⟩
  · rcases List.mem_append.1 he with he | he
    · exact h.sub e he
    · rw [List.mem_singleton.1 he]; exact hm
  · rw [List.map_append, List.nodup_append]
    refine ⟨h.nd, by simp, fun p hp q hq e => ?_⟩
    obtain ⟨f, hf, rfl⟩ := List.mem_map.1 hp
    simp only [List.map_cons, List.map_nil, List.mem_singleton] at hq
    subst hq
    exact c3 (posOf_in.2 ⟨f, hf, e⟩)
  · by_cases d : q < T.length
    · rw [List.getElem_append_left d] at hk ⊢
      obtain ⟨f, h1, h2⟩ := h.lnk q d hk
      exact ⟨f, by rw [List.take_append_of_le_length (by omega)]; exact h1, h2⟩
    · have hqT : q = T.length := by simp at hq; omega
      subst hqT
      rw [List.getElem_append_right (Nat.le_refl _)] at hk ⊢
      simp only [Nat.sub_self, List.getElem_cons_zero] at hk ⊢
      have hp : 0 ≤ posOf (gE l k.toNat).link T := by
        apply Decidable.byContradiction
        intro e
        exact c4 ⟨hk, by omega⟩
      obtain ⟨f, h1, h2⟩ := posOf_in.1 hp
      exact ⟨f, by rw [List.take_left]; exact h1, h2⟩
theorem tn_inv {l : List Ent} {ord : List Int} : ∀ i, InvT l (tnL l ord i)
  | 0 => ⟨fun e he => (by cases he), List.nodup_nil, fun q hq => by simp [tnL] at hq⟩
  | i + 1 => invT_step (tn_inv i) _
theorem tnS_grow {l T : List Ent} {k : Int} : ∀ e ∈ T, e ∈ tnS l T k := by
  intro e he
  unfold tnS
  split
  · exact he
  · split
    · exact he
    · split
      · exact he
      · split
        · exact he
        · exact List.mem_append_left _ he
theorem tn_has {l : List Ent} {ord : List Int} (h : (chkAll l).2 = 0) : ∀ k, k ≤ l.length → ∀ j (hj : j < l.length), j < k → l[j] ∈ tnL l ord (ord.length + k)
  | 0, _, j, hj, hjk => by omega
  | k + 1, hk, j, hj, hjk => by
    have ih := tn_has (ord := ord) h k (by omega)
    have hi := tn_inv (l := l) (ord := ord) (ord.length + k)
    have e : tnL l ord (ord.length + (k + 1)) = tnS l (tnL l ord (ord.length + k)) (k : Int) := by
      show tnS l (tnL l ord (ord.length + k)) (tnI ord (ord.length + k)) = _
      rw [tnI, if_neg (by omega)]
      congr 1
      omega
    rw [e]
    by_cases c : j < k
    · exact tnS_grow _ (ih j hj c)
    · have hjk' : j = k := by omega
      subst hjk'
      have hg : gE l j = l[j] := by simp [gE, List.getD, List.getElem?_eq_getElem hj]
      unfold tnS
      rw [if_neg (by omega), if_neg (by omega), Int.toNat_natCast, hg]
      by_cases c3 : 0 ≤ posOf l[j].path (tnL l ord (ord.length + j))
      · rw [if_pos c3]
        obtain ⟨f, h1, h2⟩ := posOf_in.1 c3
        rw [← nd_inj (ok_nodup h) (hi.sub f h1) (List.getElem_mem hj) h2]
        exact h1
      · rw [if_neg c3]
        have c4 : ¬ (l[j].kind = 4 ∧ posOf l[j].link (tnL l ord (ord.length + j)) < 0) := fun ⟨d1, d2⟩ => by
          obtain ⟨f, h1, h2, h3⟩ := bad_file ((chkAll_ok.1 h).2 j hj) d1
          rw [List.mem_take_iff_getElem] at h1
          obtain ⟨q, hq, rfl⟩ := h1
          have := posOf_in.2 ⟨_, ih q (by omega) (by omega), h3⟩
          omega
        rw [if_neg c4]
        simp
theorem nodup_of_path {l : List Ent} (h : (l.map (·.path)).Nodup) : l.Nodup := by
  rw [List.Nodup, List.pairwise_map] at h
  exact h.imp fun hn e => hn (by rw [e])
theorem tn_perm {l : List Ent} {ord : List Int} (h : (chkAll l).2 = 0) : (tnL l ord (ord.length + l.length)).Perm l := by
  have hi := tn_inv (l := l) (ord := ord) (ord.length + l.length)
  refine (List.perm_ext_iff_of_nodup (nodup_of_path hi.nd) (nodup_of_path (ok_nodup h))).2 fun e => ⟨hi.sub e, fun he => ?_⟩
  obtain ⟨j, hj, rfl⟩ := List.mem_iff_getElem.1 he
  exact tn_has h l.length (Nat.le_refl _) j hj hj
theorem tn_ok {l : List Ent} {ord : List Int} (h : (chkAll l).2 = 0) : (chkAll (tnL l ord (ord.length + l.length))).2 = 0 := by
  have hi := tn_inv (l := l) (ord := ord) (ord.length + l.length)
  have hp := tn_perm (ord := ord) h
  have hs := okS_of h
  refine ok_of (by rw [hp.length_eq]; exact hs.len) (fun e he => hs.chk e (hi.sub e he)) hi.nd (fun x hx y hy => hs.fit x (hi.sub x hx) y (hi.sub y hy)) fun q hq hk => ?_
  obtain ⟨f, h1, h2⟩ := hi.lnk q hq hk
  obtain ⟨f', g1, g2, g3, g4⟩ := hs.file _ (hi.sub _ (List.getElem_mem hq)) hk
  have : f = f' := nd_inj hs.nd (hi.sub f (List.mem_of_mem_take h1)) g1 (by rw [h2, g3])
  subst this
  exact ⟨f, h1, g2, h2, g4⟩
theorem tn_can {l : List Ent} {ord : List Int} (h : (chkAll l).2 = 0) : canP (tnL l ord (ord.length + l.length)) = canP l := by
  have hi := tn_inv (l := l) (ord := ord) (ord.length + l.length)
  have hp := tn_perm (ord := ord) h
  have e : sortE (tnL l ord (ord.length + l.length)) = sortE l := srtE_sortE (sortE_srt hi.nd) ((sortE_perm _).trans hp) (ok_nodup h)
  rw [canP, e, hp.length_eq]
  rfl
end Go.Proofs.YtbmmdkbinlnogaaDoor.Aw
namespace Go.Proofs.YtbmmdkbinlnogaaDoor.Aw
open Go
set_option linter.unusedSimpArgs false
set_option linter.unusedVariables false
theorem gE_get {l : List Ent} {i : Nat} (h : i < l.length) : gE l i = l[i] := by simp [gE, List.getD, List.getElem?_eq_getElem h]
inductive CanC (s X : List Ent) (j : Nat) : Prop
  | none (h : grp (gE s j) = none) (e : gE X j = gE s j)
  | reg (g : List UInt8) (hf : fstG s g j) (hk : (gE s j).kind = 1) (e : gE X j = gE s j)
  | new (g : List UInt8) (hf : fstG s g j) (hk : (gE s j).kind = 4) (f : Nat) (hjf : j < f) (hfl : f < s.length) (kf : (gE s f).kind = 1) (pf : (gE s f).path = g) (e : gE X j = asReg (gE s j) (gE s f))
  | lnk (g : List UInt8) (m : Nat) (hf : fstG s g m) (hm : m < j) (hg : grp (gE s j) = some g) (e : gE X j = asHard (gE s j) (gE s m).path)
theorem canC {s : List Ent} (hG : Good s) {j : Nat} (hj : j < s.length) : CanC s (regL s s.length).1 j := by
  have hp := invP_all hG s.length (Nat.le_refl _)
  cases hg : grp (gE s j) with
  | none => exact .none hg (hp.no j hg)
  | some g =>
    obtain ⟨m, hm, hf⟩ := fstG_ex j hj hg
    by_cases c : m = j
    · subst c
      rcases grp_kind hg with ⟨k1, p1⟩ | ⟨k4, l4⟩
      · exact .reg g hf k1 (hp.fs2 g m hf hj (fun f h1 h2 h3 h4 => by have := file_uni hG hj h2 hg h3 k1 h4; omega))
      · obtain ⟨f, hfl, kf, pf⟩ := hG.file m hj k4
        have pf : (gE s f).path = g := by rw [pf, l4]
        have hgf : grp (gE s f) = some g := by rw [grp_reg kf, pf]
        have hmf : m < f := by
          rcases Nat.lt_trichotomy f m with c | c | c
          · exact absurd hgf (hf.2.2 f c)
          · subst c; rw [kf] at k4; exact absurd k4 (by decide)
          · exact c
        exact .new g hf k4 f hmf hfl kf pf (hp.fs1 g m hf hj f hmf hfl hgf kf)
    · exact .lnk g m hf (by omega) hg (hp.non j hj g m hf hg (by omega))
theorem can_len {s X : List Ent} (_ : Good s) (hX : X = (regL s s.length).1) : X.length = s.length := by rw [hX, regL_len]
theorem can_c {s X : List Ent} (hG : Good s) (hX : X = (regL s s.length).1) {j : Nat} (hj : j < s.length) : CanC s X j := by rw [hX]; exact canC hG hj
theorem can_path {s X : List Ent} (hG : Good s) (hX : X = (regL s s.length).1) {j : Nat} (hj : j < s.length) : (gE X j).path = (gE s j).path := by
  rcases can_c hG hX hj with ⟨_, e⟩ | ⟨_, _, _, e⟩ | ⟨_, _, _, _, _, _, _, _, e⟩ | ⟨_, _, _, _, _, e⟩ <;> rw [e] <;> rfl
theorem can_k2 {s X : List Ent} (hG : Good s) (hX : X = (regL s s.length).1) {j : Nat} (hj : j < s.length) : decide ((gE X j).kind = 2) = decide ((gE s j).kind = 2) := by
  have key : ∀ (a b : Int), a = 1 ∨ a = 4 → b = 1 ∨ b = 4 → decide (a = 2) = decide (b = 2) := fun a b ha hb => by
    rcases ha with rfl | rfl <;> rcases hb with rfl | rfl <;> rfl
  rcases can_c hG hX hj with ⟨_, e⟩ | ⟨_, _, _, e⟩ | ⟨g, hf, hk, _, _, _, _, _, e⟩ | ⟨g, _, _, _, hg, e⟩
  · rw [e]
  · rw [e]
  · rw [e]; exact key _ _ (.inl rfl) (.inr hk)
  · rw [e]
    refine key _ _ (.inr rfl) ?_
    rcases grp_kind hg with ⟨h, _⟩ | ⟨h, _⟩
    · exact .inl h
    · exact .inr h
theorem can_link {s X : List Ent} (hG : Good s) (hX : X = (regL s s.length).1) {j : Nat} (hj : j < s.length) (hk : (gE X j).kind = 4) : ∃ g m, fstG s g m ∧ m < j ∧ grp (gE s j) = some g ∧ gE X j = asHard (gE s j) (gE s m).path ∧ (gE X m).kind = 1 := by
  rcases can_c hG hX hj with ⟨h, e⟩ | ⟨_, _, h, e⟩ | ⟨_, _, _, _, _, _, _, _, e⟩ | ⟨g, m, hf, hm, hg, e⟩
  · rw [e] at hk; rw [grp_hard hk] at h; cases h
  · rw [e, h] at hk; exact absurd hk (by decide)
  · rw [e] at hk; exact absurd hk (show ¬ (1 : Int) = 4 by decide)
  · refine ⟨g, m, hf, hm, hg, e, ?_⟩
    rcases can_c hG hX hf.1 with ⟨h, _⟩ | ⟨_, _, h, e⟩ | ⟨_, _, _, _, _, _, _, _, e⟩ | ⟨g', m', hf', hm', hg', _⟩
    · have := hf.2.1; rw [h] at this; cases this
    · rw [e]; exact h
    · rw [e]; rfl
    · have h1 := hf.2.1
      rw [hg'] at h1
      obtain rfl := Option.some.inj h1
      have := fstG_uni hf hf'
      omega
theorem can_nd {s X : List Ent} (hG : Good s) (hX : X = (regL s s.length).1) {i j : Nat} (hi : i < s.length) (hj : j < s.length) (e : (gE X i).path = (gE X j).path) : i = j := by
  rw [can_path hG hX hi, can_path hG hX hj] at e
  exact hG.nd i j hi hj e
theorem alike_trans {f a b : Ent} (h1 : alikeB f a = true) (h2 : alikeB f b = true) : alikeB a b = true := by
  simp only [alikeB, Bool.and_eq_true, decide_eq_true_eq] at h1 h2 ⊢
  obtain ⟨a1, a2, a3, a4, a5, a6⟩ := h1
  obtain ⟨b1, b2, b3, b4, b5, b6⟩ := h2
  exact ⟨a1 ▸ b1, a2 ▸ b2, a3 ▸ b3, a4 ▸ b4, a5 ▸ b5, a6 ▸ b6⟩
theorem chk_mk {e : Ent} (h1 : pathOk e.path = true) (h2 : kindOk e = true) (h3 : numFit e = true) (h4 : (ownOk e.owner && ownOk e.group) = true) (h5 : linkOk e = true) (h6 : argOk e = true) (h7 : e.data.length ≤ 1048576) : chk e = 0 := by
  rw [chk, if_pos h1, if_pos h2, if_pos h3, if_pos h4, if_pos h5, if_pos h6, if_pos h7]
theorem fits_congr {x y x' y' : Ent} (h1 : x.path = x'.path) (h2 : decide (x.kind = 2) = decide (x'.kind = 2)) (h3 : y.path = y'.path) (h4 : decide (y.kind = 2) = decide (y'.kind = 2)) : fitsB x y = fitsB x' y' := by
  unfold fitsB
  rw [h1, h2, h3, h4]
theorem grp_alike {l s : List Ent} (hs : OkS l) (hm : ∀ i, i < s.length → gE s i ∈ l) {g : List UInt8} {i j : Nat} (hi : i < s.length) (hj : j < s.length) (gi : grp (gE s i) = some g) (gj : grp (gE s j) = some g) : alikeB (gE s i) (gE s j) = true := by
  have key : ∀ i, i < s.length → grp (gE s i) = some g → ∃ f ∈ l, f.path = g ∧ alikeB f (gE s i) = true := fun i hi gi => by
    rcases grp_kind gi with ⟨k1, p1⟩ | ⟨k4, l4⟩
    · exact ⟨gE s i, hm i hi, p1, alike_self⟩
    · obtain ⟨f, h1, _, h3, h4⟩ := hs.file _ (hm i hi) k4
      exact ⟨f, h1, by rw [h3, l4], h4⟩
  obtain ⟨f, h1, h2, h3⟩ := key i hi gi
  obtain ⟨f', h1', h2', h3'⟩ := key j hj gj
  have : f = f' := nd_inj hs.nd h1 h1' (by rw [h2, h2'])
  subst this
  exact alike_trans h3 h3'
theorem can_ok {l : List Ent} (h : (chkAll l).2 = 0) : (chkAll (canP l)).2 = 0 := by
  have hs := okS_of h
  have hG := good_sort h
  obtain ⟨s, hse⟩ : ∃ s, s = sortE l := ⟨_, rfl⟩
  have hmem : ∀ i, i < s.length → gE s i ∈ l := fun i hi => by rw [hse] at hi ⊢; exact mem_sortE.1 (getD_mem hi)
  obtain ⟨X, hXe⟩ : ∃ X, X = canP l := ⟨_, rfl⟩
  have hX : X = (regL s s.length).1 := by rw [hXe, canP, hse, sortE_length]
  rw [← hse] at hG
  rw [← hXe]
  have hlen := can_len hG hX
  have hsl : s.length = l.length := by rw [hse, sortE_length]
  have hgx : ∀ e ∈ X, ∃ j, j < s.length ∧ e = gE X j := fun e he => by
    obtain ⟨j, hj, rfl⟩ := List.mem_iff_getElem.1 he
    exact ⟨j, by omega, (gE_get hj).symm⟩
  refine ok_of (by rw [hlen, hsl]; exact hs.len) (fun e he => ?_) ?_ (fun x hx y hy hxy => ?_) fun q hq hk => ?_
  · obtain ⟨j, hj, rfl⟩ := hgx e he
    obtain ⟨b1, b2, b3, b4, b5, b6, b7⟩ := chk_arg (hs.chk _ (hmem j hj))
    rcases can_c hG hX hj with ⟨_, e⟩ | ⟨_, _, _, e⟩ | ⟨g, hf, hk, f, hjf, hfl, kf, pf, e⟩ | ⟨g, m, hf, hm, hg, e⟩
    · rw [e]; exact hs.chk _ (hmem j hj)
    · rw [e]; exact hs.chk _ (hmem j hj)
    · rw [e]
      exact chk_mk b1 rfl b3 b4 rfl rfl (chk_arg (hs.chk _ (hmem f hfl))).2.2.2.2.2.2
    · rw [e]
      have hpm := (chk_arg (hs.chk _ (hmem m hf.1))).1
      refine chk_mk b1 rfl b3 b4 ?_ rfl (Nat.zero_le _)
      show (pathOk (gE s m).path && !decide ((gE s m).path = (gE s j).path)) = true
      rw [hpm, decide_eq_false (fun e => by have := hG.nd m j hf.1 hj e; omega)]
      rfl
  · rw [List.Nodup, List.pairwise_iff_getElem]
    intro i j hi hj hij
    simp only [List.length_map] at hi hj
    simp only [List.getElem_map]
    intro e
    rw [← gE_get hi, ← gE_get hj] at e
    have := can_nd hG hX (by omega) (by omega) e
    omega
  · obtain ⟨i, hi, rfl⟩ := hgx x hx
    obtain ⟨j, hj, rfl⟩ := hgx y hy
    rw [fits_congr (can_path hG hX hi) (can_k2 hG hX hi) (can_path hG hX hj) (can_k2 hG hX hj)]
    rw [can_path hG hX hi, can_path hG hX hj] at hxy
    exact hs.fit _ (hmem i hi) _ (hmem j hj) hxy
  · have hqs : q < s.length := by omega
    rw [← gE_get hq] at hk ⊢
    obtain ⟨g, m, hf, hm, hg, e, hk1⟩ := can_link hG hX hqs hk
    have hpm := can_path hG hX hf.1
    refine ⟨gE X m, ?_, hk1, ?_, ?_⟩
    · rw [List.mem_take_iff_getElem]
      exact ⟨m, by omega, (gE_get (by omega)).symm⟩
    · rw [hpm, e]; rfl
    · have ha := grp_alike hs hmem hf.1 hqs hf.2.1 hg
      have e1 : alikeB (gE X m) (gE X q) = alikeB (gE s m) (gE s q) := by
        rw [e]
        rcases can_c hG hX hf.1 with ⟨_, e⟩ | ⟨_, _, _, e⟩ | ⟨_, _, _, _, _, _, _, _, e⟩ | ⟨_, _, _, _, _, e⟩ <;> rw [e] <;> rfl
      rw [e1]
      exact ha
theorem can_srt {l : List Ent} (h : (chkAll l).2 = 0) : SrtE (canP l) := by
  have hG := good_sort h
  have hX : canP l = (regL (sortE l) (sortE l).length).1 := by rw [canP, sortE_length]
  have hlen := can_len hG hX
  have hs := List.pairwise_iff_getElem.1 (sortE_srt (ok_nodup h))
  rw [SrtE, List.pairwise_iff_getElem]
  intro i j hi hj hij
  rw [← gE_get hi, ← gE_get hj, can_path hG hX (by omega), can_path hG hX (by omega), gE_get (by omega), gE_get (by omega)]
  exact hs i j (by omega) (by omega) hij
theorem can_own {l : List Ent} (h : (chkAll l).2 = 0) : sameL (canP l) (canP (canP l)) = true := by
  have hG := good_sort h
  obtain ⟨s, hse⟩ : ∃ s, s = sortE l := ⟨_, rfl⟩
  have hX : canP l = (regL s s.length).1 := by rw [canP, hse, sortE_length]
  rw [← hse] at hG
  have h2 := can_ok h
  have hsx : sortE (canP l) = canP l := (srtE_sortE (can_srt h) (List.Perm.refl _) (ok_nodup h2)).symm
  have hG2 := good_sort h2
  rw [hsx] at hG2
  obtain ⟨X, hXe⟩ : ∃ X, X = canP l := ⟨_, rfl⟩
  have hZ : canP X = (regL X X.length).1 := by rw [canP, hXe, hsx]
  rw [← hXe] at hX hG2 ⊢
  have hlen := can_len hG hX
  refine sameL_of (by rw [hZ, regL_len]) fun j hj => ?_
  have hjs : j < s.length := by omega
  rcases can_c hG2 hZ hj with ⟨_, e⟩ | ⟨_, _, _, e⟩ | ⟨g, hf, hk, f, hjf, hfl, kf, pf, e⟩ | ⟨g, m', hf, hm, hg, e⟩
  · rw [e]; exact samB_self
  · rw [e]; exact samB_self
  · exfalso
    obtain ⟨g', m, hf', hm, hg', ej, hk1⟩ := can_link hG hX hjs hk
    have hgx : grp (gE X j) = some (gE s m).path := by rw [grp_hard hk, ej]; rfl
    have hgj := hf.2.1
    rw [hgx] at hgj
    have hgm : grp (gE X m) = some g := by rw [grp_reg hk1, can_path hG hX hf'.1, hgj]
    exact hf.2.2 m hm hgm
  · rw [e]
    have one : ∀ i, i < s.length → grp (gE X i) = some g → (gE X i).kind = 4 → ∃ m, m < i ∧ m < s.length ∧ (gE s m).path = g ∧ (gE X m).kind = 1 ∧ gE X i = asHard (gE s i) g := fun i hi hgi hk => by
      obtain ⟨g', m, hf', hm, hg', ei, hk1⟩ := can_link hG hX hi hk
      have hgx : grp (gE X i) = some (gE s m).path := by rw [grp_hard hk, ei]; rfl
      rw [hgi] at hgx
      have := Option.some.inj hgx
      exact ⟨m, hm, hf'.1, this.symm, hk1, by rw [ei, ← this]⟩
    have fst : ∃ m, m < s.length ∧ (gE s m).path = g ∧ m = m' := by
      rcases grp_kind hf.2.1 with ⟨k1, p1⟩ | ⟨k4, l4⟩
      · exact ⟨m', by have := hf.1; omega, by rw [← can_path hG hX (by have := hf.1; omega)]; exact p1, rfl⟩
      · obtain ⟨m, h1, h2, h3, h4, _⟩ := one m' (by have := hf.1; omega) hf.2.1 k4
        have : grp (gE X m) = some g := by rw [grp_reg h4, can_path hG hX h2, h3]
        exact absurd this (hf.2.2 m h1)
    obtain ⟨m, hml, hmp, rfl⟩ := fst
    have hXm : (gE X m).path = g := by rw [can_path hG hX hml, hmp]
    rcases grp_kind hg with ⟨k1, p1⟩ | ⟨k4, l4⟩
    · have := can_nd hG hX hml hjs (by rw [hXm, p1])
      omega
    · obtain ⟨m2, _, _, _, _, ej⟩ := one j hjs hg k4
      rw [hXm, ej]
      exact samB_self
theorem can_in {l : List Ent} (h : (chkAll l).2 = 0) {e : Ent} (he : e ∈ l) : 0 ≤ posOf e.path (canP l) := by
  have hG := good_sort h
  have hX : canP l = (regL (sortE l) (sortE l).length).1 := by rw [canP, sortE_length]
  have hlen := can_len hG hX
  obtain ⟨j, hj, e2⟩ := List.mem_iff_getElem.1 (mem_sortE.2 he)
  refine posOf_in.2 ⟨gE (canP l) j, ?_, ?_⟩
  · exact getD_mem (by omega)
  · rw [can_path hG hX hj, gE_get hj, e2]
end Go.Proofs.YtbmmdkbinlnogaaDoor.Aw
namespace Go.Proofs.YtbmmdkbinlnogaaDoor.Aw
open Go
set_option linter.unusedSimpArgs false
set_option linter.unusedVariables false
theorem sameL_self : ∀ {l : List Ent}, sameL l l = true
  | [] => rfl
  | e :: l => by rw [sameL, samB_self, sameL_self]; rfl
theorem tnS_len {l T : List Ent} {k : Int} : (tnS l T k).length ≤ T.length + 1 := by
  unfold tnS
  split
  · omega
  · split
    · omega
    · split
      · omega
      · split
        · omega
        · simp
theorem tn_len {l : List Ent} {ord : List Int} : ∀ i, (tnL l ord i).length ≤ i
  | 0 => Nat.le_refl _
  | i + 1 => Nat.le_trans tnS_len (by have := tn_len (l := l) (ord := ord) i; omega)
set_option maxHeartbeats 8000000 in
set_option maxRecDepth 100000 in
theorem EntryOne_law [Tabs Tryd.prog] (p : Bool × List EnT) (hp : p.2.length ≤ maxLen ∧ (p.1 = true → p.2 = []) ∧ ∀ a ∈ p.2, enR a) (o : Bool × List Int) (ho : o.2.length ≤ maxLen ∧ (o.1 = true → o.2 = []) ∧ ∀ a ∈ o.2, IntKind.i64.min ≤ a ∧ a ≤ IntKind.i64.max) :
    Con Tryd.prog n_drayagelaw07_EntryOne [.sl p.1 (some 10) (p.2.map fun a => entV (enOf a)), .sl o.1 none (o.2.map fun n => .sc (.int .i64 n))] (boo true) := by
  obtain ⟨nl, q⟩ := p
  obtain ⟨nlo, ord⟩ := o
  simp only at hp ho ⊢
  obtain ⟨hb, hi, hn⟩ := enR_all hp.2.2
  have hql : q.length ≤ 9223372036854775807 := Nat.le_trans hp.1 (by decide)
  have hol : ord.length ≤ 9223372036854775807 := Nat.le_trans ho.1 (by decide)
  have hor := ho.2.2
  rw [map_enOf]
  obtain ⟨l, hl⟩ : ∃ l, l = q.map enOf := ⟨_, rfl⟩
  have hll : l.length ≤ 9223372036854775807 := by rw [hl, List.length_map]; exact hql
  have hnl : nl = true → l = [] := fun h => by rw [hl, hp.2.1 h]; rfl
  rw [← hl] at hb hi hn ⊢
  clear hl hp ho
  have hof : AV.free.freeL (ord.map fun n => AV.sc (.int .i64 n)) = true := freeL_iff.2 fun x hx => by
    obtain ⟨e, _, rfl⟩ := List.mem_map.1 hx
    rfl
  refine Con.of' mix Tryd.func7 rfl Tryd.ntmps7 e_drayagelaw07_EntryOne r_drayagelaw07_EntryOne (by simp) (by simp only [AV.free.freeL, AV.free, free_ents, hof, Bool.and_self]) rfl ?_
  unfold s_drayagelaw07_EntryOne
  repeat (first | refine wA ?_ | refine wB ?_ | refine wC rfl ?_ | refine wD rfl ?_ | refine wE ?_ | refine wF (by omega) ?_ | ((first | refine wG ?_ | refine wH ?_ | refine wI ?_ | refine wJ ?_ | refine wK ?_ | refine wL ?_); simp (disch := omega) only [wP, wZ, undef, UInt8.reduceToNat, Nat.reduceOr, Nat.reduceAnd, Nat.reduceXor, Nat.reduceDiv, if_pos, if_neg, aStore, frz, AV.flat, ↓reduceIte, ne_eq, reduceCtorEq, Int.reduceToNat, Nat.reduceEqDiff, Nat.reduceAdd, Nat.reduceSub, Nat.reduceMul, Int.reduceAdd, Int.reduceMul, Int.reduceSub, Int.reduceLT, Int.reduceLE, Int.reduceEq, Int.reduceNe, Nat.reduceLeDiff, Nat.reduceLT, Int.reduceNeg, Nat.reducePow, Nat.reduceMod, ByteArray.size]))
  refine goC_p _ (.inl ⟨rfl, awake7_c⟩) ?_
  repeat (first | refine wA ?_ | refine wB ?_ | refine wC rfl ?_ | refine wD rfl ?_ | refine wE ?_ | refine wF (by omega) ?_ | ((first | refine wG ?_ | refine wH ?_ | refine wI ?_ | refine wJ ?_ | refine wK ?_ | refine wL ?_); simp (disch := omega) only [wP, wZ, undef, UInt8.reduceToNat, Nat.reduceOr, Nat.reduceAnd, Nat.reduceXor, Nat.reduceDiv, if_pos, if_neg, aStore, frz, AV.flat, ↓reduceIte, ne_eq, reduceCtorEq, Int.reduceToNat, Nat.reduceEqDiff, Nat.reduceAdd, Nat.reduceSub, Nat.reduceMul, Int.reduceAdd, Int.reduceMul, Int.reduceSub, Int.reduceLT, Int.reduceLE, Int.reduceEq, Int.reduceNe, Nat.reduceLeDiff, Nat.reduceLT, Int.reduceNeg, Nat.reducePow, Nat.reduceMod, ByteArray.size, boo]))
  have hfl : AV.free.freeL [.sl nl (some 10) (l.map entV)] = true := by simp only [AV.free.freeL, AV.free, free_ents, Bool.and_self]
  refine goC_p _ (.inl ⟨by simp only [AV.free.freeL, AV.free, free_ents, Bool.and_self], ref_Light_c nl l hll hb 60 5000 (by decide) (by decide)⟩) ?_
  cases c1 : lightV l 60 5000
  · repeat (first | refine wA ?_ | refine wB ?_ | refine wC rfl ?_ | refine wD rfl ?_ | refine wE ?_ | refine wF (by omega) ?_ | ((first | refine wG ?_ | refine wH ?_ | refine wI ?_ | refine wJ ?_ | refine wK ?_ | refine wL ?_); simp (disch := omega) only [wP, wZ, undef, UInt8.reduceToNat, Nat.reduceOr, Nat.reduceAnd, Nat.reduceXor, Nat.reduceDiv, if_pos, if_neg, aStore, frz, AV.flat, ↓reduceIte, ne_eq, reduceCtorEq, Int.reduceToNat, Nat.reduceEqDiff, Nat.reduceAdd, Nat.reduceSub, Nat.reduceMul, Int.reduceAdd, Int.reduceMul, Int.reduceSub, Int.reduceLT, Int.reduceLE, Int.reduceEq, Int.reduceNe, Nat.reduceLeDiff, Nat.reduceLT, Int.reduceNeg, Nat.reducePow, Nat.reduceMod, ByteArray.size, boo]))
    done
  by_cases c2 : 100 < ord.length
  · have d2 : decide ((100 : Int) < (ord.length : Int)) = true := decide_eq_true (by omega)
    repeat (first | refine wA ?_ | refine wB ?_ | refine wC rfl ?_ | refine wD rfl ?_ | refine wE ?_ | refine wF (by omega) ?_ | ((first | refine wG ?_ | refine wH ?_ | refine wI ?_ | refine wJ ?_ | refine wK ?_ | refine wL ?_); simp (disch := omega) only [wP, wZ, undef, UInt8.reduceToNat, Nat.reduceOr, Nat.reduceAnd, Nat.reduceXor, Nat.reduceDiv, if_pos, if_neg, aStore, frz, AV.flat, ↓reduceIte, ne_eq, reduceCtorEq, Int.reduceToNat, Nat.reduceEqDiff, Nat.reduceAdd, Nat.reduceSub, Nat.reduceMul, Int.reduceAdd, Int.reduceMul, Int.reduceSub, Int.reduceLT, Int.reduceLE, Int.reduceEq, Int.reduceNe, Nat.reduceLeDiff, Nat.reduceLT, Int.reduceNeg, Nat.reducePow, Nat.reduceMod, ByteArray.size, boo, d2, List.length_map]))
    done
  have d2 : decide ((100 : Int) < (ord.length : Int)) = false := decide_eq_false (by omega)
  obtain ⟨l1, l2⟩ := light_S (by decide) c1
  repeat (first | refine wA ?_ | refine wB ?_ | refine wC rfl ?_ | refine wD rfl ?_ | refine wE ?_ | refine wF (by omega) ?_ | ((first | refine wG ?_ | refine wH ?_ | refine wI ?_ | refine wJ ?_ | refine wK ?_ | refine wL ?_); simp (disch := omega) only [wP, wZ, undef, UInt8.reduceToNat, Nat.reduceOr, Nat.reduceAnd, Nat.reduceXor, Nat.reduceDiv, if_pos, if_neg, aStore, frz, AV.flat, ↓reduceIte, ne_eq, reduceCtorEq, Int.reduceToNat, Nat.reduceEqDiff, Nat.reduceAdd, Nat.reduceSub, Nat.reduceMul, Int.reduceAdd, Int.reduceMul, Int.reduceSub, Int.reduceLT, Int.reduceLE, Int.reduceEq, Int.reduceNe, Nat.reduceLeDiff, Nat.reduceLT, Int.reduceNeg, Nat.reducePow, Nat.reduceMod, ByteArray.size, boo, d2, List.length_map]))
  have hSI : ∀ e ∈ l, entS e ∧ entI e := fun e he => ⟨l2 e he, hi e he⟩
  refine goC_p _ (.inl ⟨hfl, Canon_c nl l hnl (by omega) hSI hn⟩) ?_
  by_cases h0 : (chkAll l).2 = 0
  case neg =>
    rw [canV, if_neg h0]
    have d0 : decide ((chkAll l).2 = 0) = false := decide_eq_false h0
    obtain ⟨C, hC⟩ : ∃ C, C = (chkAll l).2 := ⟨_, rfl⟩
    rw [← hC] at d0 ⊢
    repeat (first | refine wA ?_ | refine wB ?_ | refine wC rfl ?_ | refine wD rfl ?_ | refine wE ?_ | refine wF (by omega) ?_ | ((first | refine wG ?_ | refine wH ?_ | refine wI ?_ | refine wJ ?_ | refine wK ?_ | refine wL ?_); simp (disch := omega) only [wP, wZ, undef, UInt8.reduceToNat, Nat.reduceOr, Nat.reduceAnd, Nat.reduceXor, Nat.reduceDiv, if_pos, if_neg, aStore, frz, AV.flat, ↓reduceIte, ne_eq, reduceCtorEq, Int.reduceToNat, Nat.reduceEqDiff, Nat.reduceAdd, Nat.reduceSub, Nat.reduceMul, Int.reduceAdd, Int.reduceMul, Int.reduceSub, Int.reduceLT, Int.reduceLE, Int.reduceEq, Int.reduceNe, Nat.reduceLeDiff, Nat.reduceLT, Int.reduceNeg, Nat.reducePow, Nat.reduceMod, ByteArray.size, boo, d0, Bool.not_false]))
    done
  rw [canV, if_pos h0]
  obtain ⟨X, hX⟩ : ∃ X, X = canP l := ⟨_, rfl⟩
  rw [← hX]
  have hXl : X.length = l.length := by rw [hX, canP_len]
  repeat (first | refine wA ?_ | refine wB ?_ | refine wC rfl ?_ | refine wD rfl ?_ | refine wE ?_ | refine wF (by omega) ?_ | ((first | refine wG ?_ | refine wH ?_ | refine wI ?_ | refine wJ ?_ | refine wK ?_ | refine wL ?_); simp (disch := omega) only [wP, wZ, undef, UInt8.reduceToNat, Nat.reduceOr, Nat.reduceAnd, Nat.reduceXor, Nat.reduceDiv, if_pos, if_neg, aStore, frz, AV.flat, ↓reduceIte, ne_eq, reduceCtorEq, Int.reduceToNat, Nat.reduceEqDiff, Nat.reduceAdd, Nat.reduceSub, Nat.reduceMul, Int.reduceAdd, Int.reduceMul, Int.reduceSub, Int.reduceLT, Int.reduceLE, Int.reduceEq, Int.reduceNe, Nat.reduceLeDiff, Nat.reduceLT, Int.reduceNeg, Nat.reducePow, Nat.reduceMod, ByteArray.size, boo]))
  refine SWp.le (st' := mk 171 1 [(0, .sl nl (some 10) (l.map entV)), (1, .sl nlo none (ord.map fun n => .sc (.int .i64 n))), (5, .sl nl (some 10) (X.map entV)), (7, .sc (.slice none 0 0)), (8, int 0)] []) (le_mk rfl ?_ ?_ ?_) ?_
  · exact Nat.zero_le _
  iterate 2 (case _ => simp (disch := omega) only [wP, wZ, undef, UInt8.reduceToNat, Nat.reduceOr, Nat.reduceAnd, Nat.reduceXor, Nat.reduceDiv, if_pos, if_neg, aStore, frz, AV.flat, ↓reduceIte, ne_eq, reduceCtorEq, Int.reduceToNat, Nat.reduceEqDiff, Nat.reduceAdd, Nat.reduceSub, Nat.reduceMul, Int.reduceAdd, Int.reduceMul, Int.reduceSub, Int.reduceLT, Int.reduceLE, Int.reduceEq, Int.reduceNe, Nat.reduceLeDiff, Nat.reduceLT, Int.reduceNeg, Nat.reducePow, Nat.reduceMod, ByteArray.size])
  refine SWp.adopt 7 (some 10) (by simp (disch := omega) only [wP, wZ, undef, UInt8.reduceToNat, Nat.reduceOr, Nat.reduceAnd, Nat.reduceXor, Nat.reduceDiv, if_pos, if_neg, aStore, frz, AV.flat, ↓reduceIte, ne_eq, reduceCtorEq, Int.reduceToNat, Nat.reduceEqDiff, Nat.reduceAdd, Nat.reduceSub, Nat.reduceMul, Int.reduceAdd, Int.reduceMul, Int.reduceSub, Int.reduceLT, Int.reduceLE, Int.reduceEq, Int.reduceNe, Nat.reduceLeDiff, Nat.reduceLT, Int.reduceNeg, Nat.reducePow, Nat.reduceMod, ByteArray.size]) ?_
  refine SWp.loop (α := Nat × Nat) (fun z => mk 171 (z.2 + 1) [(0, .sl nl (some 10) (l.map entV)), (1, .sl nlo none (ord.map fun n => .sc (.int .i64 n))), (5, .sl nl (some 10) (X.map entV)), (7, .own 7 z.2 (some 10) 0 (tnL l ord z.1).length), (8, int z.1)] [(7, z.2, .row (nl0 (tnL l ord z.1).length) (enC (tnL l ord z.1)))])
    (fun z => z.1 ≤ ord.length + l.length) (fun z => ord.length + l.length - z.1) (0, 1) (Nat.zero_le _) (le_mk rfl (Nat.le_refl _) ?_ ?_) ?_
  · simp (disch := omega) only [wP, wZ, undef, UInt8.reduceToNat, Nat.reduceOr, Nat.reduceAnd, Nat.reduceXor, Nat.reduceDiv, if_pos, if_neg, aStore, frz, AV.flat, ↓reduceIte, ne_eq, reduceCtorEq, Int.reduceToNat, Nat.reduceEqDiff, Nat.reduceAdd, Nat.reduceSub, Nat.reduceMul, Int.reduceAdd, Int.reduceMul, Int.reduceSub, Int.reduceLT, Int.reduceLE, Int.reduceEq, Int.reduceNe, Nat.reduceLeDiff, Nat.reduceLT, Int.reduceNeg, Nat.reducePow, Nat.reduceMod, ByteArray.size, tnL, List.length_nil]
  · simp (disch := omega) only [wP, wZ, undef, UInt8.reduceToNat, Nat.reduceOr, Nat.reduceAnd, Nat.reduceXor, Nat.reduceDiv, if_pos, if_neg, aStore, frz, AV.flat, ↓reduceIte, ne_eq, reduceCtorEq, Int.reduceToNat, Nat.reduceEqDiff, Nat.reduceAdd, Nat.reduceSub, Nat.reduceMul, Int.reduceAdd, Int.reduceMul, Int.reduceSub, Int.reduceLT, Int.reduceLE, Int.reduceEq, Int.reduceNe, Nat.reduceLeDiff, Nat.reduceLT, Int.reduceNeg, Nat.reducePow, Nat.reduceMod, ByteArray.size, tnL, List.length_nil, nl0_zero, show enC [] = [] from rfl]
  rintro ⟨i, g⟩ hik -
  simp only at hik
  have hnext : tnL l ord (i + 1) = tnS l (tnL l ord i) (tnI ord i) := rfl
  have hinv := tn_inv (l := l) (ord := ord) i
  have hTl : (tnL l ord i).length ≤ 160 := Nat.le_trans (tn_len i) (by omega)
  by_cases hi' : i < ord.length + l.length
  case pos =>
    have di : decide ((i : Int) < (ord.length : Int) + (l.length : Int)) = true := decide_eq_true (by omega)
    obtain ⟨T, hT⟩ : ∃ T, T = tnL l ord i := ⟨_, rfl⟩
    rw [← hT] at hTl hinv hnext ⊢
    obtain ⟨K, hK⟩ : ∃ K, K = tnI ord i := ⟨_, rfl⟩
    rw [← hK] at hnext
    by_cases ci : i < ord.length
    case' pos =>
      have dci : decide ((i : Int) < (ord.length : Int)) = true := decide_eq_true (by omega)
      rw [tnI, if_pos ci] at hK
      have hgo : (ord.map fun n => AV.sc (.int .i64 n)).getD i .junk = .sc (.int .i64 K) := by rw [hK]; simp [List.getD, List.getElem?_eq_getElem ci]
      iterate 14 (first | refine wA ?_ | refine wB ?_ | refine wC rfl ?_ | refine wD rfl ?_ | refine wE ?_ | refine wF (by omega) ?_ | ((first | refine wG ?_ | refine wH ?_ | refine wI ?_ | refine wJ ?_ | refine wK ?_ | refine wL ?_); simp (disch := omega) only [wP, wZ, undef, UInt8.reduceToNat, Nat.reduceOr, Nat.reduceAnd, Nat.reduceXor, Nat.reduceDiv, if_pos, if_neg, aStore, frz, AV.flat, ↓reduceIte, ne_eq, reduceCtorEq, Int.reduceToNat, Nat.reduceEqDiff, Nat.reduceAdd, Nat.reduceSub, Nat.reduceMul, Int.reduceAdd, Int.reduceMul, Int.reduceSub, Int.reduceLT, Int.reduceLE, Int.reduceEq, Int.reduceNe, Nat.reduceLeDiff, Nat.reduceLT, Int.reduceNeg, Nat.reducePow, Nat.reduceMod, ByteArray.size, di, dci, List.length_map, hgo]))
      repeat refine And.intro (by omega) ?_
    case' neg =>
      have dci : decide ((i : Int) < (ord.length : Int)) = false := decide_eq_false (by omega)
      rw [tnI, if_neg ci] at hK
      iterate 14 (first | refine wA ?_ | refine wB ?_ | refine wC rfl ?_ | refine wD rfl ?_ | refine wE ?_ | refine wF (by omega) ?_ | ((first | refine wG ?_ | refine wH ?_ | refine wI ?_ | refine wJ ?_ | refine wK ?_ | refine wL ?_); simp (disch := omega) only [wP, wZ, undef, UInt8.reduceToNat, Nat.reduceOr, Nat.reduceAnd, Nat.reduceXor, Nat.reduceDiv, if_pos, if_neg, aStore, frz, AV.flat, ↓reduceIte, ne_eq, reduceCtorEq, Int.reduceToNat, Nat.reduceEqDiff, Nat.reduceAdd, Nat.reduceSub, Nat.reduceMul, Int.reduceAdd, Int.reduceMul, Int.reduceSub, Int.reduceLT, Int.reduceLE, Int.reduceEq, Int.reduceNe, Nat.reduceLeDiff, Nat.reduceLT, Int.reduceNeg, Nat.reducePow, Nat.reduceMod, ByteArray.size, di, dci, List.length_map, hK]))
    all_goals
      refine SWp.le (st' := mk 171 (g + 1) [(0, .sl nl (some 10) (l.map entV)), (1, .sl nlo none (ord.map fun n => .sc (.int .i64 n))), (5, .sl nl (some 10) (X.map entV)), (7, .own 7 g (some 10) 0 T.length), (8, int i), (9, int K)] [(7, g, .row (nl0 T.length) (enC T))]) (le_mk rfl (Nat.le_refl _) ?_ ?_) ?_
      · simp (disch := omega) only [wP, wZ, undef, UInt8.reduceToNat, Nat.reduceOr, Nat.reduceAnd, Nat.reduceXor, Nat.reduceDiv, if_pos, if_neg, aStore, frz, AV.flat, ↓reduceIte, ne_eq, reduceCtorEq, Int.reduceToNat, Nat.reduceEqDiff, Nat.reduceAdd, Nat.reduceSub, Nat.reduceMul, Int.reduceAdd, Int.reduceMul, Int.reduceSub, Int.reduceLT, Int.reduceLE, Int.reduceEq, Int.reduceNe, Nat.reduceLeDiff, Nat.reduceLT, Int.reduceNeg, Nat.reducePow, Nat.reduceMod, ByteArray.size]
        try omega
      · simp (disch := omega) only [wP, wZ, undef, UInt8.reduceToNat, Nat.reduceOr, Nat.reduceAnd, Nat.reduceXor, Nat.reduceDiv, if_pos, if_neg, aStore, frz, AV.flat, ↓reduceIte, ne_eq, reduceCtorEq, Int.reduceToNat, Nat.reduceEqDiff, Nat.reduceAdd, Nat.reduceSub, Nat.reduceMul, Int.reduceAdd, Int.reduceMul, Int.reduceSub, Int.reduceLT, Int.reduceLE, Int.reduceEq, Int.reduceNe, Nat.reduceLeDiff, Nat.reduceLT, Int.reduceNeg, Nat.reducePow, Nat.reduceMod, ByteArray.size]
      clear hK
      by_cases k0 : K < 0
      · have e0 : decide (K < 0) = true := decide_eq_true k0
        rw [tnS, if_pos k0] at hnext
        repeat (first | refine wA ?_ | refine wB ?_ | refine wC rfl ?_ | refine wD rfl ?_ | refine wE ?_ | refine wF (by omega) ?_ | ((first | refine wG ?_ | refine wH ?_ | refine wI ?_ | refine wJ ?_ | refine wK ?_ | refine wL ?_); simp (disch := omega) only [wP, wZ, undef, UInt8.reduceToNat, Nat.reduceOr, Nat.reduceAnd, Nat.reduceXor, Nat.reduceDiv, if_pos, if_neg, aStore, frz, AV.flat, ↓reduceIte, ne_eq, reduceCtorEq, Int.reduceToNat, Nat.reduceEqDiff, Nat.reduceAdd, Nat.reduceSub, Nat.reduceMul, Int.reduceAdd, Int.reduceMul, Int.reduceSub, Int.reduceLT, Int.reduceLE, Int.reduceEq, Int.reduceNe, Nat.reduceLeDiff, Nat.reduceLT, Int.reduceNeg, Nat.reducePow, Nat.reduceMod, ByteArray.size, e0]))
        refine At.of (i + 1, g) (by simp only; omega) (by simp only; omega) rfl rfl (Nat.le_refl _) ?_ ?_
        iterate 2 (case _ => simp (disch := omega) only [wP, wZ, undef, UInt8.reduceToNat, Nat.reduceOr, Nat.reduceAnd, Nat.reduceXor, Nat.reduceDiv, if_pos, if_neg, aStore, frz, AV.flat, ↓reduceIte, ne_eq, reduceCtorEq, Int.reduceToNat, Nat.reduceEqDiff, Nat.reduceAdd, Nat.reduceSub, Nat.reduceMul, Int.reduceAdd, Int.reduceMul, Int.reduceSub, Int.reduceLT, Int.reduceLE, Int.reduceEq, Int.reduceNe, Nat.reduceLeDiff, Nat.reduceLT, Int.reduceNeg, Nat.reducePow, Nat.reduceMod, ByteArray.size, hnext])
      have e0 : decide (K < 0) = false := decide_eq_false k0
      rw [tnS, if_neg k0] at hnext
      by_cases k1 : (l.length : Int) ≤ K
      · have e1 : decide ((l.length : Int) ≤ K) = true := decide_eq_true k1
        rw [if_pos k1] at hnext
        repeat (first | refine wA ?_ | refine wB ?_ | refine wC rfl ?_ | refine wD rfl ?_ | refine wE ?_ | refine wF (by omega) ?_ | ((first | refine wG ?_ | refine wH ?_ | refine wI ?_ | refine wJ ?_ | refine wK ?_ | refine wL ?_); simp (disch := omega) only [wP, wZ, undef, UInt8.reduceToNat, Nat.reduceOr, Nat.reduceAnd, Nat.reduceXor, Nat.reduceDiv, if_pos, if_neg, aStore, frz, AV.flat, ↓reduceIte, ne_eq, reduceCtorEq, Int.reduceToNat, Nat.reduceEqDiff, Nat.reduceAdd, Nat.reduceSub, Nat.reduceMul, Int.reduceAdd, Int.reduceMul, Int.reduceSub, Int.reduceLT, Int.reduceLE, Int.reduceEq, Int.reduceNe, Nat.reduceLeDiff, Nat.reduceLT, Int.reduceNeg, Nat.reducePow, Nat.reduceMod, ByteArray.size, e0, e1, ge_iff_le, List.length_map]))
        refine At.of (i + 1, g) (by simp only; omega) (by simp only; omega) rfl rfl (Nat.le_refl _) ?_ ?_
        iterate 2 (case _ => simp (disch := omega) only [wP, wZ, undef, UInt8.reduceToNat, Nat.reduceOr, Nat.reduceAnd, Nat.reduceXor, Nat.reduceDiv, if_pos, if_neg, aStore, frz, AV.flat, ↓reduceIte, ne_eq, reduceCtorEq, Int.reduceToNat, Nat.reduceEqDiff, Nat.reduceAdd, Nat.reduceSub, Nat.reduceMul, Int.reduceAdd, Int.reduceMul, Int.reduceSub, Int.reduceLT, Int.reduceLE, Int.reduceEq, Int.reduceNe, Nat.reduceLeDiff, Nat.reduceLT, Int.reduceNeg, Nat.reducePow, Nat.reduceMod, ByteArray.size, hnext])
      have e1 : decide ((l.length : Int) ≤ K) = false := decide_eq_false k1
      rw [if_neg k1] at hnext
      obtain ⟨k, hk⟩ : ∃ k : Nat, K = (k : Int) := ⟨K.toNat, by omega⟩
      subst hk
      have hkl : k < l.length := by omega
      rw [Int.toNat_natCast, gE_get hkl] at hnext
      have hgi := getD_ents hkl
      have hek := l2 _ (List.getElem_mem hkl)
      have hch : chunks (some 10) T.length (enC T) = T.map entV := chunks_enC
      have hfe : AV.free.freeL (T.map entV) = true := free_ents
      have f1 := ref_Find_c (nl0 T.length) T (by omega) l[k].path hek.1
      obtain ⟨P1, hP1⟩ : ∃ P1, P1 = posOf l[k].path T := ⟨_, rfl⟩
      rw [← hP1] at f1 hnext
      repeat (first | refine wA ?_ | refine wB ?_ | refine wC rfl ?_ | refine wD rfl ?_ | refine wE ?_ | refine wF (by omega) ?_ | ((first | refine wG ?_ | refine wH ?_ | refine wI ?_ | refine wJ ?_ | refine wK ?_ | refine wL ?_); simp (disch := omega) only [wP, wZ, undef, UInt8.reduceToNat, Nat.reduceOr, Nat.reduceAnd, Nat.reduceXor, Nat.reduceDiv, if_pos, if_neg, aStore, frz, AV.flat, ↓reduceIte, ne_eq, reduceCtorEq, Int.reduceToNat, Nat.reduceEqDiff, Nat.reduceAdd, Nat.reduceSub, Nat.reduceMul, Int.reduceAdd, Int.reduceMul, Int.reduceSub, Int.reduceLT, Int.reduceLE, Int.reduceEq, Int.reduceNe, Nat.reduceLeDiff, Nat.reduceLT, Int.reduceNeg, Nat.reducePow, Nat.reduceMod, ByteArray.size, e0, e1, ge_iff_le, List.length_map, hgi, entV, entL]))
      refine goC_p (int P1) (.inr ⟨rfl, ?_, ?_⟩) ?_
      · simp (disch := omega) only [wP, wZ, undef, UInt8.reduceToNat, Nat.reduceOr, Nat.reduceAnd, Nat.reduceXor, Nat.reduceDiv, if_pos, if_neg, aStore, frz, AV.flat, ↓reduceIte, ne_eq, reduceCtorEq, Int.reduceToNat, Nat.reduceEqDiff, Nat.reduceAdd, Nat.reduceSub, Nat.reduceMul, Int.reduceAdd, Int.reduceMul, Int.reduceSub, Int.reduceLT, Int.reduceLE, Int.reduceEq, Int.reduceNe, Nat.reduceLeDiff, Nat.reduceLT, Int.reduceNeg, Nat.reducePow, Nat.reduceMod, ByteArray.size, hch, List.drop_zero, length_enC, AV.free.freeL, AV.free, hfe, Bool.and_self, Nat.le_refl]
      · simp (disch := omega) only [wP, wZ, undef, UInt8.reduceToNat, Nat.reduceOr, Nat.reduceAnd, Nat.reduceXor, Nat.reduceDiv, if_pos, if_neg, aStore, frz, AV.flat, ↓reduceIte, ne_eq, reduceCtorEq, Int.reduceToNat, Nat.reduceEqDiff, Nat.reduceAdd, Nat.reduceSub, Nat.reduceMul, Int.reduceAdd, Int.reduceMul, Int.reduceSub, Int.reduceLT, Int.reduceLE, Int.reduceEq, Int.reduceNe, Nat.reduceLeDiff, Nat.reduceLT, Int.reduceNeg, Nat.reducePow, Nat.reduceMod, ByteArray.size, hch, List.drop_zero, length_enC, Nat.le_refl]
        exact f1
      by_cases k2 : 0 ≤ P1
      · have e2 : decide (0 ≤ P1) = true := decide_eq_true k2
        rw [if_pos k2] at hnext
        repeat (first | refine wA ?_ | refine wB ?_ | refine wC rfl ?_ | refine wD rfl ?_ | refine wE ?_ | refine wF (by omega) ?_ | ((first | refine wG ?_ | refine wH ?_ | refine wI ?_ | refine wJ ?_ | refine wK ?_ | refine wL ?_); simp (disch := omega) only [wP, wZ, undef, UInt8.reduceToNat, Nat.reduceOr, Nat.reduceAnd, Nat.reduceXor, Nat.reduceDiv, if_pos, if_neg, aStore, frz, AV.flat, ↓reduceIte, ne_eq, reduceCtorEq, Int.reduceToNat, Nat.reduceEqDiff, Nat.reduceAdd, Nat.reduceSub, Nat.reduceMul, Int.reduceAdd, Int.reduceMul, Int.reduceSub, Int.reduceLT, Int.reduceLE, Int.reduceEq, Int.reduceNe, Nat.reduceLeDiff, Nat.reduceLT, Int.reduceNeg, Nat.reducePow, Nat.reduceMod, ByteArray.size, e2, ge_iff_le]))
        refine At.of (i + 1, g) (by simp only; omega) (by simp only; omega) rfl rfl (Nat.le_refl _) ?_ ?_
        iterate 2 (case _ => simp (disch := omega) only [wP, wZ, undef, UInt8.reduceToNat, Nat.reduceOr, Nat.reduceAnd, Nat.reduceXor, Nat.reduceDiv, if_pos, if_neg, aStore, frz, AV.flat, ↓reduceIte, ne_eq, reduceCtorEq, Int.reduceToNat, Nat.reduceEqDiff, Nat.reduceAdd, Nat.reduceSub, Nat.reduceMul, Int.reduceAdd, Int.reduceMul, Int.reduceSub, Int.reduceLT, Int.reduceLE, Int.reduceEq, Int.reduceNe, Nat.reduceLeDiff, Nat.reduceLT, Int.reduceNeg, Nat.reducePow, Nat.reduceMod, ByteArray.size, hnext])
      have e2 : decide (0 ≤ P1) = false := decide_eq_false k2
      rw [if_neg k2] at hnext
      have ce : cellsA (entV l[k]) = some (entL l[k]) := rfl
      have cl : (entL l[k]).length = 10 := rfl
      have ct : (entL l[k]).take 10 = entL l[k] := rfl
      have cf : (∀ (y : AV), y ∈ [AV.agg (entL l[k])] → ∃ xs, y = AV.agg xs) = True := eq_true fun y hy => ⟨_, List.mem_singleton.1 hy⟩
      have cg : cellsA (.agg (entL l[k])) = some (entL l[k]) := rfl
      have g1 : (entL l[k]).getD 1 .junk = .sc (.int .i64 l[k].kind) := rfl
      have g8 : (entL l[k]).getD 8 .junk = .sc (.string ⟨l[k].link.toArray⟩) := rfl
      have hap : enC T ++ entL l[k] = enC (T ++ [l[k]]) := by rw [← enC_append]; simp [enC]
      by_cases k4 : l[k].kind = 4
      case' neg =>
        have e4 : decide (l[k].kind = 4) = false := decide_eq_false k4
        rw [if_neg (fun h => k4 h.1)] at hnext
        repeat (first | refine wA ?_ | refine wB ?_ | refine wC rfl ?_ | refine wD rfl ?_ | refine wE ?_ | refine wF (by omega) ?_ | ((first | refine wG ?_ | refine wH ?_ | refine wI ?_ | refine wJ ?_ | refine wK ?_ | refine wL ?_); simp (disch := omega) only [wP, wZ, undef, UInt8.reduceToNat, Nat.reduceOr, Nat.reduceAnd, Nat.reduceXor, Nat.reduceDiv, if_pos, if_neg, aStore, frz, AV.flat, ↓reduceIte, ne_eq, reduceCtorEq, Int.reduceToNat, Nat.reduceEqDiff, Nat.reduceAdd, Nat.reduceSub, Nat.reduceMul, Int.reduceAdd, Int.reduceMul, Int.reduceSub, Int.reduceLT, Int.reduceLE, Int.reduceEq, Int.reduceNe, Nat.reduceLeDiff, Nat.reduceLT, Int.reduceNeg, Nat.reducePow, Nat.reduceMod, ByteArray.size, e2, e4, ge_iff_le, List.length_map, hgi, ce, cl, ct, cf, cg, g1, g8]))
      case' pos =>
        have e4 : decide (l[k].kind = 4) = true := decide_eq_true k4
        have f2 := ref_Find_c (nl0 T.length) T (by omega) l[k].link hek.2.2.2.1
        obtain ⟨P2, hP2⟩ : ∃ P2, P2 = posOf l[k].link T := ⟨_, rfl⟩
        rw [← hP2] at f2 hnext
        repeat (first | refine wA ?_ | refine wB ?_ | refine wC rfl ?_ | refine wD rfl ?_ | refine wE ?_ | refine wF (by omega) ?_ | ((first | refine wG ?_ | refine wH ?_ | refine wI ?_ | refine wJ ?_ | refine wK ?_ | refine wL ?_); simp (disch := omega) only [wP, wZ, undef, UInt8.reduceToNat, Nat.reduceOr, Nat.reduceAnd, Nat.reduceXor, Nat.reduceDiv, if_pos, if_neg, aStore, frz, AV.flat, ↓reduceIte, ne_eq, reduceCtorEq, Int.reduceToNat, Nat.reduceEqDiff, Nat.reduceAdd, Nat.reduceSub, Nat.reduceMul, Int.reduceAdd, Int.reduceMul, Int.reduceSub, Int.reduceLT, Int.reduceLE, Int.reduceEq, Int.reduceNe, Nat.reduceLeDiff, Nat.reduceLT, Int.reduceNeg, Nat.reducePow, Nat.reduceMod, ByteArray.size, e2, e4, ge_iff_le, List.length_map, hgi, ce, cl, ct, cf, cg, g1, g8]))
        refine goC_p (int P2) (.inr ⟨rfl, ?_, ?_⟩) ?_
        · simp (disch := omega) only [wP, wZ, undef, UInt8.reduceToNat, Nat.reduceOr, Nat.reduceAnd, Nat.reduceXor, Nat.reduceDiv, if_pos, if_neg, aStore, frz, AV.flat, ↓reduceIte, ne_eq, reduceCtorEq, Int.reduceToNat, Nat.reduceEqDiff, Nat.reduceAdd, Nat.reduceSub, Nat.reduceMul, Int.reduceAdd, Int.reduceMul, Int.reduceSub, Int.reduceLT, Int.reduceLE, Int.reduceEq, Int.reduceNe, Nat.reduceLeDiff, Nat.reduceLT, Int.reduceNeg, Nat.reducePow, Nat.reduceMod, ByteArray.size, hch, List.drop_zero, length_enC, AV.free.freeL, AV.free, hfe, Bool.and_self, Nat.le_refl]
        · simp (disch := omega) only [wP, wZ, undef, UInt8.reduceToNat, Nat.reduceOr, Nat.reduceAnd, Nat.reduceXor, Nat.reduceDiv, if_pos, if_neg, aStore, frz, AV.flat, ↓reduceIte, ne_eq, reduceCtorEq, Int.reduceToNat, Nat.reduceEqDiff, Nat.reduceAdd, Nat.reduceSub, Nat.reduceMul, Int.reduceAdd, Int.reduceMul, Int.reduceSub, Int.reduceLT, Int.reduceLE, Int.reduceEq, Int.reduceNe, Nat.reduceLeDiff, Nat.reduceLT, Int.reduceNeg, Nat.reducePow, Nat.reduceMod, ByteArray.size, hch, List.drop_zero, length_enC, Nat.le_refl]
          exact f2
        by_cases k5 : P2 < 0
        · have e5 : decide (P2 < 0) = true := decide_eq_true k5
          rw [if_pos ⟨k4, k5⟩] at hnext
          repeat (first | refine wA ?_ | refine wB ?_ | refine wC rfl ?_ | refine wD rfl ?_ | refine wE ?_ | refine wF (by omega) ?_ | ((first | refine wG ?_ | refine wH ?_ | refine wI ?_ | refine wJ ?_ | refine wK ?_ | refine wL ?_); simp (disch := omega) only [wP, wZ, undef, UInt8.reduceToNat, Nat.reduceOr, Nat.reduceAnd, Nat.reduceXor, Nat.reduceDiv, if_pos, if_neg, aStore, frz, AV.flat, ↓reduceIte, ne_eq, reduceCtorEq, Int.reduceToNat, Nat.reduceEqDiff, Nat.reduceAdd, Nat.reduceSub, Nat.reduceMul, Int.reduceAdd, Int.reduceMul, Int.reduceSub, Int.reduceLT, Int.reduceLE, Int.reduceEq, Int.reduceNe, Nat.reduceLeDiff, Nat.reduceLT, Int.reduceNeg, Nat.reducePow, Nat.reduceMod, ByteArray.size, e5]))
          refine At.of (i + 1, g) (by simp only; omega) (by simp only; omega) rfl rfl (Nat.le_refl _) ?_ ?_
          iterate 2 (case _ => simp (disch := omega) only [wP, wZ, undef, UInt8.reduceToNat, Nat.reduceOr, Nat.reduceAnd, Nat.reduceXor, Nat.reduceDiv, if_pos, if_neg, aStore, frz, AV.flat, ↓reduceIte, ne_eq, reduceCtorEq, Int.reduceToNat, Nat.reduceEqDiff, Nat.reduceAdd, Nat.reduceSub, Nat.reduceMul, Int.reduceAdd, Int.reduceMul, Int.reduceSub, Int.reduceLT, Int.reduceLE, Int.reduceEq, Int.reduceNe, Nat.reduceLeDiff, Nat.reduceLT, Int.reduceNeg, Nat.reducePow, Nat.reduceMod, ByteArray.size, hnext])
        have e5 : decide (P2 < 0) = false := decide_eq_false k5
        rw [if_neg (fun h => k5 h.2)] at hnext
        repeat (first | refine wA ?_ | refine wB ?_ | refine wC rfl ?_ | refine wD rfl ?_ | refine wE ?_ | refine wF (by omega) ?_ | ((first | refine wG ?_ | refine wH ?_ | refine wI ?_ | refine wJ ?_ | refine wK ?_ | refine wL ?_); simp (disch := omega) only [wP, wZ, undef, UInt8.reduceToNat, Nat.reduceOr, Nat.reduceAnd, Nat.reduceXor, Nat.reduceDiv, if_pos, if_neg, aStore, frz, AV.flat, ↓reduceIte, ne_eq, reduceCtorEq, Int.reduceToNat, Nat.reduceEqDiff, Nat.reduceAdd, Nat.reduceSub, Nat.reduceMul, Int.reduceAdd, Int.reduceMul, Int.reduceSub, Int.reduceLT, Int.reduceLE, Int.reduceEq, Int.reduceNe, Nat.reduceLeDiff, Nat.reduceLT, Int.reduceNeg, Nat.reducePow, Nat.reduceMod, ByteArray.size, e5, ge_iff_le, List.length_map, hgi, ce, cl, ct, cf, cg]))
      all_goals
        refine ⟨⟨⟨_, rfl, rfl⟩, by simp only [entL, AV.free, AV.free.freeL, str, int, free_u8, Bool.and_self]⟩, ⟨by rw [length_enC], by omega, by omega⟩, ?_⟩
        repeat (first | refine wA ?_ | refine wB ?_ | refine wC rfl ?_ | refine wD rfl ?_ | refine wE ?_ | refine wF (by omega) ?_ | ((first | refine wG ?_ | refine wH ?_ | refine wI ?_ | refine wJ ?_ | refine wK ?_ | refine wL ?_); simp (disch := omega) only [wP, wZ, undef, UInt8.reduceToNat, Nat.reduceOr, Nat.reduceAnd, Nat.reduceXor, Nat.reduceDiv, if_pos, if_neg, aStore, frz, AV.flat, ↓reduceIte, ne_eq, reduceCtorEq, Int.reduceToNat, Nat.reduceEqDiff, Nat.reduceAdd, Nat.reduceSub, Nat.reduceMul, Int.reduceAdd, Int.reduceMul, Int.reduceSub, Int.reduceLT, Int.reduceLE, Int.reduceEq, Int.reduceNe, Nat.reduceLeDiff, Nat.reduceLT, Int.reduceNeg, Nat.reducePow, Nat.reduceMod, ByteArray.size]))
        refine At.of (i + 1, g + 1) (by simp only; omega) (by simp only; omega) rfl rfl (Nat.le_refl _) ?_ ?_
        iterate 2 (case _ => simp (disch := omega) only [wP, wZ, undef, UInt8.reduceToNat, Nat.reduceOr, Nat.reduceAnd, Nat.reduceXor, Nat.reduceDiv, if_pos, if_neg, aStore, frz, AV.flat, ↓reduceIte, ne_eq, reduceCtorEq, Int.reduceToNat, Nat.reduceEqDiff, Nat.reduceAdd, Nat.reduceSub, Nat.reduceMul, Int.reduceAdd, Int.reduceMul, Int.reduceSub, Int.reduceLT, Int.reduceLE, Int.reduceEq, Int.reduceNe, Nat.reduceLeDiff, Nat.reduceLT, Int.reduceNeg, Nat.reducePow, Nat.reduceMod, ByteArray.size, hnext, List.length_append, List.length_cons, List.length_nil, nl0_succ, cg, hap, List.flatMap_cons, List.flatMap_nil, Option.getD_some, List.append_nil, Bool.and_false, List.isEmpty_cons])
  have di : decide ((i : Int) < (ord.length : Int) + (l.length : Int)) = false := decide_eq_false (by omega)
  have hin : i = ord.length + l.length := by omega
  subst hin
  have hperm := tn_perm (ord := ord) h0
  have hok := tn_ok (ord := ord) h0
  have hcan := tn_can (ord := ord) h0
  obtain ⟨T, hT⟩ : ∃ T, T = tnL l ord (ord.length + l.length) := ⟨_, rfl⟩
  rw [← hT] at hTl hinv hperm hok hcan ⊢
  have hT2 : T.length = l.length := hperm.length_eq
  rw [hT2]
  have eqn : decide ((l.length : Int) = (l.length : Int)) = true := decide_eq_true rfl
  have di2 : decide ((ord.length : Int) + (l.length : Int) < (ord.length : Int) + (l.length : Int)) = false := decide_eq_false (by omega)
  repeat (first | refine wA ?_ | refine wB ?_ | refine wC rfl ?_ | refine wD rfl ?_ | refine wE ?_ | refine wF (by omega) ?_ | ((first | refine wG ?_ | refine wH ?_ | refine wI ?_ | refine wJ ?_ | refine wK ?_ | refine wL ?_); simp (disch := omega) only [wP, wZ, undef, UInt8.reduceToNat, Nat.reduceOr, Nat.reduceAnd, Nat.reduceXor, Nat.reduceDiv, if_pos, if_neg, aStore, frz, AV.flat, ↓reduceIte, ne_eq, reduceCtorEq, Int.reduceToNat, Nat.reduceEqDiff, Nat.reduceAdd, Nat.reduceSub, Nat.reduceMul, Int.reduceAdd, Int.reduceMul, Int.reduceSub, Int.reduceLT, Int.reduceLE, Int.reduceEq, Int.reduceNe, Nat.reduceLeDiff, Nat.reduceLT, Int.reduceNeg, Nat.reducePow, Nat.reduceMod, ByteArray.size, di, di2, List.length_map, eqn, Bool.not_true]))
  have hTS : ∀ e ∈ T, entS e ∧ entI e := fun e he => hSI e (hinv.sub e he)
  have hTn : nlOk T := fun e he => hn e (hinv.sub e he)
  have hnT : nl0 l.length = true → T = [] := fun h => by
    have : l.length = 0 := by
      cases c : l.length with
      | zero => rfl
      | succ n => rw [c, nl0_succ] at h; cases h
    exact List.length_eq_zero_iff.1 (by omega)
  have cT := Canon_c (nl0 l.length) T hnT (by omega) hTS hTn
  rw [canV, if_pos hok, hcan, ← hX] at cT
  have hch : chunks (some 10) l.length (enC T) = T.map entV := by rw [← hT2]; exact chunks_enC
  refine goC_f 7 g (nl := nl0 l.length) (cells := enC T) [.sl (nl0 l.length) (some 10) (T.map entV)] _ rfl free_enC ?_ (by simp only [AV.free.freeL, AV.free, free_ents, Bool.and_self]) cT ?_
  · simp (disch := omega) only [wP, wZ, undef, UInt8.reduceToNat, Nat.reduceOr, Nat.reduceAnd, Nat.reduceXor, Nat.reduceDiv, if_pos, if_neg, aStore, frz, AV.flat, ↓reduceIte, ne_eq, reduceCtorEq, Int.reduceToNat, Nat.reduceEqDiff, Nat.reduceAdd, Nat.reduceSub, Nat.reduceMul, Int.reduceAdd, Int.reduceMul, Int.reduceSub, Int.reduceLT, Int.reduceLE, Int.reduceEq, Int.reduceNe, Nat.reduceLeDiff, Nat.reduceLT, Int.reduceNeg, Nat.reducePow, Nat.reduceMod, ByteArray.size, fzo_own, fzoL_cons, fzoL_nil, hch, List.drop_zero, length_enC, hT2, Nat.le_refl]
  repeat (first | refine wA ?_ | refine wB ?_ | refine wC rfl ?_ | refine wD rfl ?_ | refine wE ?_ | refine wF (by omega) ?_ | ((first | refine wG ?_ | refine wH ?_ | refine wI ?_ | refine wJ ?_ | refine wK ?_ | refine wL ?_); simp (disch := omega) only [wP, wZ, undef, UInt8.reduceToNat, Nat.reduceOr, Nat.reduceAnd, Nat.reduceXor, Nat.reduceDiv, if_pos, if_neg, aStore, frz, AV.flat, ↓reduceIte, ne_eq, reduceCtorEq, Int.reduceToNat, Nat.reduceEqDiff, Nat.reduceAdd, Nat.reduceSub, Nat.reduceMul, Int.reduceAdd, Int.reduceMul, Int.reduceSub, Int.reduceLT, Int.reduceLE, Int.reduceEq, Int.reduceNe, Nat.reduceLeDiff, Nat.reduceLT, Int.reduceNeg, Nat.reducePow, Nat.reduceMod, ByteArray.size]))
  have hXS : ∀ e ∈ X, entS e ∧ entI e := by rw [hX]; exact canP_all clS hSI
  have hXn : nlOk X := by rw [hX]; exact canP_all clN hn
  have hnX : nl = true → X = [] := fun h => List.length_eq_zero_iff.1 (by rw [hXl, hnl h]; rfl)
  have hok2 := can_ok h0
  have hown := can_own h0
  have hin := fun e he => can_in h0 (e := e) he
  have hsr := can_srt h0
  rw [← hX] at hok2 hown hin hsr
  have cX := Canon_c nl X hnX (by omega) hXS hXn
  rw [canV, if_pos hok2] at cX
  have hfX : AV.free.freeL [.sl nl (some 10) (X.map entV)] = true := by simp only [AV.free.freeL, AV.free, free_ents, Bool.and_self]
  refine goC_p _ (.inl ⟨hfX, cX⟩) ?_
  have hXd : ∀ e ∈ X, e.data.length ≤ 10000000 := fun e he => (hXS e he).1.2.2.2.2
  have s1 := ref_Same_c nl (nl0 l.length) X X (by omega) (by omega) hXd hXd
  rw [sameL_self] at s1
  have s2 := ref_Same_c nl nl X (canP X) (by omega) (by rw [canP_len]; omega) hXd (same_data hown hXd)
  rw [hown] at s2
  obtain ⟨Y, hY⟩ : ∃ Y, Y = canP X := ⟨_, rfl⟩
  rw [← hY] at s2 ⊢
  repeat (first | refine wA ?_ | refine wB ?_ | refine wC rfl ?_ | refine wD rfl ?_ | refine wE ?_ | refine wF (by omega) ?_ | ((first | refine wG ?_ | refine wH ?_ | refine wI ?_ | refine wJ ?_ | refine wK ?_ | refine wL ?_); simp (disch := omega) only [wP, wZ, undef, UInt8.reduceToNat, Nat.reduceOr, Nat.reduceAnd, Nat.reduceXor, Nat.reduceDiv, if_pos, if_neg, aStore, frz, AV.flat, ↓reduceIte, ne_eq, reduceCtorEq, Int.reduceToNat, Nat.reduceEqDiff, Nat.reduceAdd, Nat.reduceSub, Nat.reduceMul, Int.reduceAdd, Int.reduceMul, Int.reduceSub, Int.reduceLT, Int.reduceLE, Int.reduceEq, Int.reduceNe, Nat.reduceLeDiff, Nat.reduceLT, Int.reduceNeg, Nat.reducePow, Nat.reduceMod, ByteArray.size, boo]))
  refine goC_p _ (.inl ⟨by simp only [AV.free.freeL, AV.free, free_ents, Bool.and_self], s1⟩) ?_
  repeat (first | refine wA ?_ | refine wB ?_ | refine wC rfl ?_ | refine wD rfl ?_ | refine wE ?_ | refine wF (by omega) ?_ | ((first | refine wG ?_ | refine wH ?_ | refine wI ?_ | refine wJ ?_ | refine wK ?_ | refine wL ?_); simp (disch := omega) only [wP, wZ, undef, UInt8.reduceToNat, Nat.reduceOr, Nat.reduceAnd, Nat.reduceXor, Nat.reduceDiv, if_pos, if_neg, aStore, frz, AV.flat, ↓reduceIte, ne_eq, reduceCtorEq, Int.reduceToNat, Nat.reduceEqDiff, Nat.reduceAdd, Nat.reduceSub, Nat.reduceMul, Int.reduceAdd, Int.reduceMul, Int.reduceSub, Int.reduceLT, Int.reduceLE, Int.reduceEq, Int.reduceNe, Nat.reduceLeDiff, Nat.reduceLT, Int.reduceNeg, Nat.reducePow, Nat.reduceMod, ByteArray.size, boo]))
  refine goC_p _ (.inl ⟨by simp only [AV.free.freeL, AV.free, free_ents, Bool.and_self], s2⟩) ?_
  repeat (first | refine wA ?_ | refine wB ?_ | refine wC rfl ?_ | refine wD rfl ?_ | refine wE ?_ | refine wF (by omega) ?_ | ((first | refine wG ?_ | refine wH ?_ | refine wI ?_ | refine wJ ?_ | refine wK ?_ | refine wL ?_); simp (disch := omega) only [wP, wZ, undef, UInt8.reduceToNat, Nat.reduceOr, Nat.reduceAnd, Nat.reduceXor, Nat.reduceDiv, if_pos, if_neg, aStore, frz, AV.flat, ↓reduceIte, ne_eq, reduceCtorEq, Int.reduceToNat, Nat.reduceEqDiff, Nat.reduceAdd, Nat.reduceSub, Nat.reduceMul, Int.reduceAdd, Int.reduceMul, Int.reduceSub, Int.reduceLT, Int.reduceLE, Int.reduceEq, Int.reduceNe, Nat.reduceLeDiff, Nat.reduceLT, Int.reduceNeg, Nat.reducePow, Nat.reduceMod, ByteArray.size, boo, List.length_map, hXl, eqn, Bool.not_true]))
  refine SWp.loop (α := Nat) (fun k => mk 171 (g + 1) [(0, .sl nl (some 10) (l.map entV)), (5, .sl nl (some 10) (X.map entV)), (14, int k)] [])
    (fun k => k ≤ l.length) (fun k => l.length - k) 0 (Nat.zero_le _) (le_mk rfl (Nat.le_refl _) ?_ ?_) ?_
  iterate 2 (case _ => simp (disch := omega) only [wP, wZ, undef, UInt8.reduceToNat, Nat.reduceOr, Nat.reduceAnd, Nat.reduceXor, Nat.reduceDiv, if_pos, if_neg, aStore, frz, AV.flat, ↓reduceIte, ne_eq, reduceCtorEq, Int.reduceToNat, Nat.reduceEqDiff, Nat.reduceAdd, Nat.reduceSub, Nat.reduceMul, Int.reduceAdd, Int.reduceMul, Int.reduceSub, Int.reduceLT, Int.reduceLE, Int.reduceEq, Int.reduceNe, Nat.reduceLeDiff, Nat.reduceLT, Int.reduceNeg, Nat.reducePow, Nat.reduceMod, ByteArray.size])
  rintro k hk -
  by_cases hk' : k < l.length
  case neg =>
    have dk : decide ((k : Int) < (l.length : Int)) = false := decide_eq_false (by omega)
    repeat (first | refine wA ?_ | refine wB ?_ | refine wC rfl ?_ | refine wD rfl ?_ | refine wE ?_ | refine wF (by omega) ?_ | ((first | refine wG ?_ | refine wH ?_ | refine wI ?_ | refine wJ ?_ | refine wK ?_ | refine wL ?_); simp (disch := omega) only [wP, wZ, undef, UInt8.reduceToNat, Nat.reduceOr, Nat.reduceAnd, Nat.reduceXor, Nat.reduceDiv, if_pos, if_neg, aStore, frz, AV.flat, ↓reduceIte, ne_eq, reduceCtorEq, Int.reduceToNat, Nat.reduceEqDiff, Nat.reduceAdd, Nat.reduceSub, Nat.reduceMul, Int.reduceAdd, Int.reduceMul, Int.reduceSub, Int.reduceLT, Int.reduceLE, Int.reduceEq, Int.reduceNe, Nat.reduceLeDiff, Nat.reduceLT, Int.reduceNeg, Nat.reducePow, Nat.reduceMod, ByteArray.size, dk, List.length_map, boo]))
    done
  have dk : decide ((k : Int) < (l.length : Int)) = true := decide_eq_true (by omega)
  have hgi := getD_ents hk'
  have hgx := getD_ents (l := X) (k := k) (by omega)
  have hek := l2 _ (List.getElem_mem hk')
  have hp0 := hin _ (List.getElem_mem hk')
  have f1 := ref_Find_c nl X (by omega) l[k].path hek.1
  obtain ⟨P1, hP1⟩ : ∃ P1, P1 = posOf l[k].path X := ⟨_, rfl⟩
  rw [← hP1] at f1 hp0
  have e1 : decide (P1 < 0) = false := decide_eq_false (by omega)
  repeat (first | refine wA ?_ | refine wB ?_ | refine wC rfl ?_ | refine wD rfl ?_ | refine wE ?_ | refine wF (by omega) ?_ | ((first | refine wG ?_ | refine wH ?_ | refine wI ?_ | refine wJ ?_ | refine wK ?_ | refine wL ?_); simp (disch := omega) only [wP, wZ, undef, UInt8.reduceToNat, Nat.reduceOr, Nat.reduceAnd, Nat.reduceXor, Nat.reduceDiv, if_pos, if_neg, aStore, frz, AV.flat, ↓reduceIte, ne_eq, reduceCtorEq, Int.reduceToNat, Nat.reduceEqDiff, Nat.reduceAdd, Nat.reduceSub, Nat.reduceMul, Int.reduceAdd, Int.reduceMul, Int.reduceSub, Int.reduceLT, Int.reduceLE, Int.reduceEq, Int.reduceNe, Nat.reduceLeDiff, Nat.reduceLT, Int.reduceNeg, Nat.reducePow, Nat.reduceMod, ByteArray.size, dk, List.length_map, hgi, entV, entL]))
  refine goC_p _ (.inl ⟨by simp only [AV.free.freeL, AV.free, free_ents, str, Bool.and_self], f1⟩) ?_
  by_cases k0 : k = 0
  · subst k0
    repeat (first | refine wA ?_ | refine wB ?_ | refine wC rfl ?_ | refine wD rfl ?_ | refine wE ?_ | refine wF (by omega) ?_ | ((first | refine wG ?_ | refine wH ?_ | refine wI ?_ | refine wJ ?_ | refine wK ?_ | refine wL ?_); simp (disch := omega) only [wP, wZ, undef, UInt8.reduceToNat, Nat.reduceOr, Nat.reduceAnd, Nat.reduceXor, Nat.reduceDiv, if_pos, if_neg, aStore, frz, AV.flat, ↓reduceIte, ne_eq, reduceCtorEq, Int.reduceToNat, Nat.reduceEqDiff, Nat.reduceAdd, Nat.reduceSub, Nat.reduceMul, Int.reduceAdd, Int.reduceMul, Int.reduceSub, Int.reduceLT, Int.reduceLE, Int.reduceEq, Int.reduceNe, Nat.reduceLeDiff, Nat.reduceLT, Int.reduceNeg, Nat.reducePow, Nat.reduceMod, ByteArray.size, e1, boo]))
    refine At.of 1 (by omega) (by omega) rfl rfl (Nat.le_refl _) ?_ ?_
    iterate 2 (case _ => simp (disch := omega) only [wP, wZ, undef, UInt8.reduceToNat, Nat.reduceOr, Nat.reduceAnd, Nat.reduceXor, Nat.reduceDiv, if_pos, if_neg, aStore, frz, AV.flat, ↓reduceIte, ne_eq, reduceCtorEq, Int.reduceToNat, Nat.reduceEqDiff, Nat.reduceAdd, Nat.reduceSub, Nat.reduceMul, Int.reduceAdd, Int.reduceMul, Int.reduceSub, Int.reduceLT, Int.reduceLE, Int.reduceEq, Int.reduceNe, Nat.reduceLeDiff, Nat.reduceLT, Int.reduceNeg, Nat.reducePow, Nat.reduceMod, ByteArray.size])
  · obtain ⟨j, rfl⟩ : ∃ j, k = j + 1 := ⟨k - 1, by omega⟩
    have d0 : decide ((0 : Int) < ((j + 1 : Nat) : Int)) = true := decide_eq_true (by omega)
    have d0' : decide ((0 : Int) < (j : Int) + 1) = true := decide_eq_true (by omega)
    have hgj := getD_ents (l := X) (k := j) (by omega)
    have hlt : Op.bytesLess (X[j]'(by omega)).path (X[j + 1]'(by omega)).path = true := (List.pairwise_iff_getElem.1 hsr) j (j + 1) (by omega) (by omega) (by omega)
    have hj1 : ((j : Int) + 1 - 1) = (j : Int) := by omega
    repeat (first | refine wA ?_ | refine wB ?_ | refine wC rfl ?_ | refine wD rfl ?_ | refine wE ?_ | refine wF (by omega) ?_ | ((first | refine wG ?_ | refine wH ?_ | refine wI ?_ | refine wJ ?_ | refine wK ?_ | refine wL ?_); simp (disch := omega) only [wP, wZ, undef, UInt8.reduceToNat, Nat.reduceOr, Nat.reduceAnd, Nat.reduceXor, Nat.reduceDiv, if_pos, if_neg, aStore, frz, AV.flat, ↓reduceIte, ne_eq, reduceCtorEq, Int.reduceToNat, Nat.reduceEqDiff, Nat.reduceAdd, Nat.reduceSub, Nat.reduceMul, Int.reduceAdd, Int.reduceMul, Int.reduceSub, Int.reduceLT, Int.reduceLE, Int.reduceEq, Int.reduceNe, Nat.reduceLeDiff, Nat.reduceLT, Int.reduceNeg, Nat.reducePow, Nat.reduceMod, ByteArray.size, e1, d0, d0', boo, hgx, hgj, hlt, hj1, List.length_map, hXl, entV, entL, Bool.not_true]))
    refine At.of (j + 1 + 1) (by omega) (by omega) rfl rfl (Nat.le_refl _) ?_ ?_
    iterate 2 (case _ => simp (disch := omega) only [wP, wZ, undef, UInt8.reduceToNat, Nat.reduceOr, Nat.reduceAnd, Nat.reduceXor, Nat.reduceDiv, if_pos, if_neg, aStore, frz, AV.flat, ↓reduceIte, ne_eq, reduceCtorEq, Int.reduceToNat, Nat.reduceEqDiff, Nat.reduceAdd, Nat.reduceSub, Nat.reduceMul, Int.reduceAdd, Int.reduceMul, Int.reduceSub, Int.reduceLT, Int.reduceLE, Int.reduceEq, Int.reduceNe, Nat.reduceLeDiff, Nat.reduceLT, Int.reduceNeg, Nat.reducePow, Nat.reduceMod, ByteArray.size])
end Go.Proofs.YtbmmdkbinlnogaaDoor.Aw
