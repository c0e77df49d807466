/- Contracts: huff.NewTree. -/
import Derived.Test.YtokdmakljdhjiaaDoorPkB
import Derived.Test.YtokdmakljdhjiaaDoorAwW
namespace Go.Proofs.YtokdmakljdhjiaaDoor.Aw
open Go
set_option linter.unusedSimpArgs false
set_option linter.unusedVariables false

/-- The symbols of a length among the first k, in their order. -/
def syms (l : List Nat) (k n : Nat) : List Nat := if n = 0 then [] else (List.range k).filter fun s => decide (l.getD s 0 = n)
theorem syms_succ {l : List Nat} {k n : Nat} (hn : n ≠ 0) : syms l (k + 1) n = if l.getD k 0 = n then syms l k n ++ [k] else syms l k n := by
  unfold syms
  rw [if_neg hn, if_neg hn, List.range_succ, List.filter_append]
  by_cases e : l.getD k 0 = n
  · rw [if_pos e, List.filter_cons, decide_eq_true e]; rfl
  · rw [if_neg e, List.filter_cons, decide_eq_false e]; simp
theorem length_syms {l : List Nat} : ∀ {k n : Nat}, k ≤ l.length → (syms l k n).length = if n = 0 then 0 else (l.take k).count n
  | 0, n, _ => by unfold syms; split <;> simp
  | k + 1, n, h => by
    have ih := length_syms (l := l) (k := k) (n := n) (by omega)
    by_cases hn : n = 0
    · subst hn; rfl
    · rw [if_neg hn] at ih ⊢
      rw [syms_succ hn, count_snoc (by omega)]
      by_cases e : l.getD k 0 = n
      · rw [if_pos e, if_pos e.symm, List.length_append, ih]; rfl
      · rw [if_neg e, if_neg (fun h => e h.symm), ih]; rfl
theorem length_syms_le {l : List Nat} {k n : Nat} (h : k ≤ l.length) : (syms l k n).length ≤ l.length := by
  rw [length_syms h]
  split
  · omega
  · exact count_take_le

/-- The cells of a tree; where they lie while it is made. -/
def trR (l : List Nat) : List AV := (r16 (fr l)).map nA ++ (List.range 16).map (fun n => AV.sl (nl0 (syms l l.length n).length) none ((syms l l.length n).map nA)) ++ [.sc (.int .i64 (kraft l : Nat))]
def trC (l : List Nat) (k : Nat) (gs : Nat → Nat) : List AV := (r16 (fr l)).map nA ++ ownR 200 16 gs (fun n => (syms l k n).length) ++ [.sc (.int .i64 (kraft l : Nat))]
def trH (l : List Nat) (k : Nat) (gs : Nat → Nat) : Hp := fun i => if i = 18 then some (0, .row false (trC l k gs)) else if 200 ≤ i ∧ i < 216 then some (gs (i - 200), .row (nl0 (syms l k (i - 200)).length) ((syms l k (i - 200)).map nA)) else none
theorem trH_18 {l : List Nat} {k : Nat} {gs : Nat → Nat} : trH l k gs 18 = some (0, .row false (trC l k gs)) := by simp [trH]
theorem trH_sym {l : List Nat} {k x : Nat} {gs : Nat → Nat} (h : x < 16) : trH l k gs (200 + x) = some (gs x, .row (nl0 (syms l k x).length) ((syms l k x).map nA)) := by
  simp only [trH]
  rw [if_neg (by omega), if_pos (by omega), show 200 + x - 200 = x by omega]
theorem length_trC {l : List Nat} {k : Nat} {gs : Nat → Nat} : (trC l k gs).length = 33 := by simp [trC, length_r16, length_ownR]
theorem trC_get {l : List Nat} {k x : Nat} {gs : Nat → Nat} (h : x < 16) : (trC l k gs).getD (16 + x) .junk = .own (200 + x) (gs x) none 0 (syms l k x).length := by
  unfold trC
  simp only [List.getD]
  rw [List.getElem?_append_left (by simp [length_r16, length_ownR]; omega), List.getElem?_append_right (by simp [length_r16])]
  simp only [List.length_map, length_r16, show 16 + x - 16 = x by omega]
  rw [ownR_get h]; rfl

theorem trC_set {l : List Nat} {k x c : Nat} {gs : Nat → Nat} (hx : x < 16) (hx0 : x ≠ 0) (hk : l.getD k 0 = x) :
    (trC l k gs).take (16 + x) ++ AV.own (200 + x) c none 0 ((syms l k x).length + 1) :: (trC l k gs).drop (16 + x + 1) = trC l (k + 1) (fun j => if j = x then c else gs j) := by
  have h := List.set_eq_take_append_cons_drop (l := trC l k gs) (i := 16 + x) (a := AV.own (200 + x) c none 0 ((syms l k x).length + 1))
  rw [if_pos (by rw [length_trC]; omega)] at h
  rw [← h]
  unfold trC
  rw [List.set_append_left _ _ (by simp [length_r16, length_ownR]; omega), List.set_append_right _ _ (by simp [length_r16])]
  congr 2
  simp only [List.length_map, length_r16, show 16 + x - 16 = x by omega]
  apply List.ext_getElem?
  intro i
  rw [List.getElem?_set, length_ownR]
  by_cases hi : i < 16
  · rw [ownR_get hi, ownR_get hi]
    by_cases e : x = i
    · subst e
      rw [if_pos rfl, if_pos hi, if_pos rfl, syms_succ hx0, if_pos hk, List.length_append]; rfl
    · rw [if_neg e, if_neg (fun h => e h.symm)]
      by_cases i0 : i = 0
      · subst i0; rfl
      · rw [syms_succ i0, if_neg (by omega)]
  · rw [List.getElem?_eq_none (by rw [length_ownR]; omega), List.getElem?_eq_none (by rw [length_ownR]; omega), if_neg (by omega)]
theorem syms_same {l : List Nat} {k n : Nat} (hk : l.getD k 0 = 0) : syms l (k + 1) n = syms l k n := by
  by_cases h : n = 0
  · subst h; rfl
  · rw [syms_succ h, if_neg (by omega)]
theorem trH_same {l : List Nat} {k : Nat} {gs : Nat → Nat} (hk : l.getD k 0 = 0) : trH l (k + 1) gs = trH l k gs := by
  funext i
  simp only [trH, trC, syms_same hk]
theorem trH_next {l : List Nat} {k x c : Nat} {gs : Nat → Nat} (hx : x < 16) (hx0 : x ≠ 0) (hk : l.getD k 0 = x) {cs : List AV} (hcs : cs = trC l (k + 1) (fun j => if j = x then c else gs j)) :
    updH (updH (trH l k gs) (200 + x) (some (c, .row false ((syms l k x).map nA ++ [.sc (.int .i64 (k : Int))])))) 18 (some (0, .row false cs)) = trH l (k + 1) (fun j => if j = x then c else gs j) := by
  funext i
  simp only [updH, trH]
  by_cases e1 : i = 18
  · simp only [if_pos e1, hcs]
  · simp only [if_neg e1]
    by_cases e2 : i = 200 + x
    · rw [if_pos e2, if_pos (by omega), show i - 200 = x by omega, if_pos rfl, syms_succ hx0, if_pos hk]
      simp only [List.map_append, List.map_cons, List.map_nil, List.length_append, List.length_singleton, nl0_succ]
      rfl
    · rw [if_neg e2]
      by_cases e3 : 200 ≤ i ∧ i < 216
      · rw [if_pos e3, if_pos e3, if_neg (by omega)]
        by_cases i0 : i - 200 = 0
        · rw [i0]; rfl
        · rw [syms_succ i0, if_neg (by omega)]
      · rw [if_neg e3, if_neg e3]
theorem le_fun {st : ASt} {l : List (Nat × AV)} {H : Hp} {gc N : Nat} (hN : N = st.N) (hgc : st.gc ≤ gc) (hl : AllTm st.tm l) (hh : st.hp = H) : Le st ⟨look l, H, gc, N⟩ := by
  have := le_mk (st := st) (gc := gc) (h := []) hN hgc hl trivial
  exact ⟨this.tm, fun id => .inl (by rw [← hh]), hgc, hN⟩

set_option maxRecDepth 100000 in
theorem huff_NewTree_c [Tabs Tryd.prog] (nl : Bool) (li : List Int) (hc : chk li = 0) (l : List Nat) (hli : l = li.map Int.toNat) : Con Tryd.prog n_huff_NewTree [.sl nl none (li.map int)] (.tup [.fp (.agg (trR l)) 0, int 0]) := by
  obtain ⟨hlen, ha, hK⟩ := chk_ok hc
  obtain ⟨hm, h15⟩ := okLens ha
  rw [← hli] at hm h15 hK
  have hl : l.length ≤ 320 := by rw [hli, List.length_map]; exact hlen
  have hchk := huff_Check_c nl li (by omega)
  rw [hm, hc] at hchk
  rw [hm]
  clear hm ha hc
  have hfT : AV.free.freeL (trR l) = true := by
    unfold trR
    rw [free_append, free_append, free_nA]
    have : AV.free.freeL ((List.range 16).map (fun n => AV.sl (nl0 (syms l l.length n).length) none ((syms l l.length n).map nA))) = true := freeL_iff.2 fun x hx => by
      obtain ⟨n, _, rfl⟩ := List.mem_map.1 hx
      simp only [AV.free, free_nA]
    rw [this]; rfl
  refine Con.of' mix Tryd.func38 rfl Tryd.ntmps38 e_huff_NewTree r_huff_NewTree (by simp) (by simp only [AV.free, AV.free.freeL, free_nA, Bool.and_self]) (by simp only [AV.free, AV.free.freeL, hfT, int, Bool.and_self]) ?_
  unfold s_huff_NewTree
  have hf : AV.free.freeL [.sl nl none (l.map nA)] = true := by simp only [AV.free, AV.free.freeL, free_nA, Bool.and_self]
  have hfr := huff_firstRows_c nl l hl h15
  have htk := huff_taken_c nl l (by omega) h15
  obtain ⟨F, hF⟩ : ∃ F, F = r16 (fr l) := ⟨_, rfl⟩
  have hFl : F.length = 16 := by rw [hF, length_r16]
  have hFm : (F.map nA).length = 16 := by rw [List.length_map, hFl]
  rw [← hF] at hfr
  obtain ⟨K, hKd⟩ : ∃ K, K = kraft l := ⟨_, rfl⟩
  rw [← hKd] at htk
  have ht1 : ∀ (x y : AV) (r : List AV), List.take 32 (F.map nA ++ (x :: y :: r)) = F.map nA ++ List.take 16 (x :: y :: r) := fun x y r => by rw [List.take_append, hFm, List.take_of_length_le (by omega)]
  have ht2 : ∀ (x y : AV) (r : List AV), List.drop 33 (F.map nA ++ (x :: y :: r)) = List.drop 17 (x :: y :: r) := fun x y r => by rw [List.drop_append, hFm, List.drop_of_length_le (by omega)]; rfl
  repeat (first | refine wA ?_ | refine wB ?_ | refine wC rfl ?_ | refine wD rfl ?_ | refine wE ?_ | refine wF (by omega) ?_ | ((first | refine wG ?_ | refine wH ?_ | refine wI ?_ | refine wJ ?_ | refine wK ?_ | refine wL ?_); simp (disch := omega) only [wP, wZ, undef, UInt8.reduceToNat, Nat.reduceOr, Nat.reduceAnd, Nat.reduceXor, Nat.reduceDiv, if_pos, if_neg, aStore, frz, AV.flat, ↓reduceIte, ne_eq, reduceCtorEq, Int.reduceToNat, Nat.reduceEqDiff, Nat.reduceAdd, Nat.reduceSub, Nat.reduceMul, Int.reduceAdd, Int.reduceMul, Int.reduceSub, Int.reduceLT, Int.reduceLE, Int.reduceEq, Int.reduceNe, Nat.reduceLeDiff, Nat.reduceLT, Int.reduceNeg, Nat.reducePow, Nat.reduceMod, ByteArray.size]))
  refine goC_p _ (.inl ⟨hf, hchk⟩) ?_
  repeat (first | refine wA ?_ | refine wB ?_ | refine wC rfl ?_ | refine wD rfl ?_ | refine wE ?_ | refine wF (by omega) ?_ | ((first | refine wG ?_ | refine wH ?_ | refine wI ?_ | refine wJ ?_ | refine wK ?_ | refine wL ?_); simp (disch := omega) only [wP, wZ, undef, UInt8.reduceToNat, Nat.reduceOr, Nat.reduceAnd, Nat.reduceXor, Nat.reduceDiv, if_pos, if_neg, aStore, frz, AV.flat, ↓reduceIte, ne_eq, reduceCtorEq, Int.reduceToNat, Nat.reduceEqDiff, Nat.reduceAdd, Nat.reduceSub, Nat.reduceMul, Int.reduceAdd, Int.reduceMul, Int.reduceSub, Int.reduceLT, Int.reduceLE, Int.reduceEq, Int.reduceNe, Nat.reduceLeDiff, Nat.reduceLT, Int.reduceNeg, Nat.reducePow, Nat.reduceMod, ByteArray.size]))
  refine goC_p _ (.inl ⟨hf, hfr⟩) ?_
  repeat (first | refine wA ?_ | refine wB ?_ | refine wC rfl ?_ | refine wD rfl ?_ | refine wE ?_ | refine wF (by omega) ?_ | ((first | refine wG ?_ | refine wH ?_ | refine wI ?_ | refine wJ ?_ | refine wK ?_ | refine wL ?_); simp (disch := omega) only [wP, wZ, undef, UInt8.reduceToNat, Nat.reduceOr, Nat.reduceAnd, Nat.reduceXor, Nat.reduceDiv, if_pos, if_neg, aStore, frz, AV.flat, ↓reduceIte, ne_eq, reduceCtorEq, Int.reduceToNat, Nat.reduceEqDiff, Nat.reduceAdd, Nat.reduceSub, Nat.reduceMul, Int.reduceAdd, Int.reduceMul, Int.reduceSub, Int.reduceLT, Int.reduceLE, Int.reduceEq, Int.reduceNe, Nat.reduceLeDiff, Nat.reduceLT, Int.reduceNeg, Nat.reducePow, Nat.reduceMod, ByteArray.size]))
  refine goC_p _ (.inl ⟨hf, htk⟩) ?_
  repeat (first | refine wA ?_ | refine wB ?_ | refine wC rfl ?_ | refine wD rfl ?_ | refine wE ?_ | refine wF (by omega) ?_ | ((first | refine wG ?_ | refine wH ?_ | refine wI ?_ | refine wJ ?_ | refine wK ?_ | refine wL ?_); simp (disch := omega) only [wP, wZ, undef, UInt8.reduceToNat, Nat.reduceOr, Nat.reduceAnd, Nat.reduceXor, Nat.reduceDiv, if_pos, if_neg, aStore, frz, AV.flat, ↓reduceIte, ne_eq, reduceCtorEq, Int.reduceToNat, Nat.reduceEqDiff, Nat.reduceAdd, Nat.reduceSub, Nat.reduceMul, Int.reduceAdd, Int.reduceMul, Int.reduceSub, Int.reduceLT, Int.reduceLE, Int.reduceEq, Int.reduceNe, Nat.reduceLeDiff, Nat.reduceLT, Int.reduceNeg, Nat.reducePow, Nat.reduceMod, ByteArray.size, hFl, ht1, ht2]))
  refine SWp.le (le_mk (N := 44) (gc := 1) (l := [(5, .op 18 0 0), (19, .sl nl none (l.map nA)), (20, int l.length), (21, int 0)]) (h := [(18, 0, .row false (F.map nA ++ List.replicate 16 (AV.sc (.slice none 0 0)) ++ [.sc (.int .i64 (K : Int))]))]) rfl ?_ ?_ ?_) ?_
  iterate 2 (case _ => simp (disch := omega) only [wP, wZ, undef, UInt8.reduceToNat, Nat.reduceOr, Nat.reduceAnd, Nat.reduceXor, Nat.reduceDiv, if_pos, if_neg, aStore, frz, AV.flat, ↓reduceIte, ne_eq, reduceCtorEq, Int.reduceToNat, Nat.reduceEqDiff, Nat.reduceAdd, Nat.reduceSub, Nat.reduceMul, Int.reduceAdd, Int.reduceMul, Int.reduceSub, Int.reduceLT, Int.reduceLE, Int.reduceEq, Int.reduceNe, Nat.reduceLeDiff, Nat.reduceLT, Int.reduceNeg, Nat.reducePow, Nat.reduceMod, ByteArray.size])
  · simp (disch := omega) only [wP, wZ, undef, UInt8.reduceToNat, Nat.reduceOr, Nat.reduceAnd, Nat.reduceXor, Nat.reduceDiv, if_pos, if_neg, aStore, frz, AV.flat, ↓reduceIte, ne_eq, reduceCtorEq, Int.reduceToNat, Nat.reduceEqDiff, Nat.reduceAdd, Nat.reduceSub, Nat.reduceMul, Int.reduceAdd, Int.reduceMul, Int.reduceSub, Int.reduceLT, Int.reduceLE, Int.reduceEq, Int.reduceNe, Nat.reduceLeDiff, Nat.reduceLT, Int.reduceNeg, Nat.reducePow, Nat.reduceMod, ByteArray.size]
    rfl
  refine SWp.adoptN 18 0 200 16 (nl := false) (pre := F.map nA) (post := [.sc (.int .i64 (K : Int))]) (by omega) (by simp (disch := omega) only [wP, wZ, undef, UInt8.reduceToNat, Nat.reduceOr, Nat.reduceAnd, Nat.reduceXor, Nat.reduceDiv, if_pos, if_neg, aStore, frz, AV.flat, ↓reduceIte, ne_eq, reduceCtorEq, Int.reduceToNat, Nat.reduceEqDiff, Nat.reduceAdd, Nat.reduceSub, Nat.reduceMul, Int.reduceAdd, Int.reduceMul, Int.reduceSub, Int.reduceLT, Int.reduceLE, Int.reduceEq, Int.reduceNe, Nat.reduceLeDiff, Nat.reduceLT, Int.reduceNeg, Nat.reducePow, Nat.reduceMod, ByteArray.size]) ?_
  refine SWp.loop (α := Nat × (Nat → Nat) × Nat) (fun x => ⟨look [(5, .op 18 0 0), (19, .sl nl none (l.map nA)), (20, int l.length), (21, int x.1)], trH l x.1 x.2.1, x.2.2, 44⟩)
    (fun x => x.1 ≤ l.length) (fun x => l.length - x.1) (0, fun j => 1 + j, 17) (Nat.zero_le _) (le_fun rfl ?_ ?_ ?_) ?_
  · exact Nat.le_refl _
  · simp (disch := omega) only [wP, wZ, undef, UInt8.reduceToNat, Nat.reduceOr, Nat.reduceAnd, Nat.reduceXor, Nat.reduceDiv, if_pos, if_neg, aStore, frz, AV.flat, ↓reduceIte, ne_eq, reduceCtorEq, Int.reduceToNat, Nat.reduceEqDiff, Nat.reduceAdd, Nat.reduceSub, Nat.reduceMul, Int.reduceAdd, Int.reduceMul, Int.reduceSub, Int.reduceLT, Int.reduceLE, Int.reduceEq, Int.reduceNe, Nat.reduceLeDiff, Nat.reduceLT, Int.reduceNeg, Nat.reducePow, Nat.reduceMod, ByteArray.size]
  · funext i
    simp only [adH, trH, trC, ← hF, ← hKd, mk_eq, lookH]
    by_cases e1 : i = 18
    · rw [if_pos e1, if_pos e1]
      simp [ownR, syms]
    · simp only [if_neg e1]
      by_cases e2 : 200 ≤ i ∧ i < 216
      · rw [if_pos (by omega), if_pos e2]
        simp [syms, nl0]
      · rw [if_neg (by omega), if_neg e2]
  rintro ⟨k, gs, c⟩ hk -
  simp only at hk
  repeat (first | refine wA ?_ | refine wB ?_ | refine wC rfl ?_ | refine wD rfl ?_ | refine wE ?_ | refine wF (by omega) ?_ | ((first | refine wG ?_ | refine wH ?_ | refine wI ?_ | refine wJ ?_ | refine wK ?_ | refine wL ?_); simp (disch := omega) only [wP, wZ, undef, UInt8.reduceToNat, Nat.reduceOr, Nat.reduceAnd, Nat.reduceXor, Nat.reduceDiv, if_pos, if_neg, aStore, frz, AV.flat, ↓reduceIte, ne_eq, reduceCtorEq, Int.reduceToNat, Nat.reduceEqDiff, Nat.reduceAdd, Nat.reduceSub, Nat.reduceMul, Int.reduceAdd, Int.reduceMul, Int.reduceSub, Int.reduceLT, Int.reduceLE, Int.reduceEq, Int.reduceNe, Nat.reduceLeDiff, Nat.reduceLT, Int.reduceNeg, Nat.reducePow, Nat.reduceMod, ByteArray.size]))
  refine SWp.cond rfl (fun h => ?_) (fun h => ?_)
  · simp only [decide_eq_true_eq] at h
    have hkl : k < l.length := by omega
    have hx15 : l.getD k 0 ≤ 15 := by
      have : l.getD k 0 = l[k] := by simp [List.getD, List.getElem?_eq_getElem hkl]
      rw [this]; exact h15 _ (List.getElem_mem hkl)
    obtain ⟨x, hx⟩ : ∃ x, x = l.getD k 0 := ⟨_, rfl⟩
    rw [← hx] at hx15
    by_cases c0 : x = 0
    · subst c0
      repeat (first | refine wA ?_ | refine wB ?_ | refine wC rfl ?_ | refine wD rfl ?_ | refine wE ?_ | refine wF (by omega) ?_ | ((first | refine wG ?_ | refine wH ?_ | refine wI ?_ | refine wJ ?_ | refine wK ?_ | refine wL ?_); simp (disch := omega) only [wP, wZ, undef, UInt8.reduceToNat, Nat.reduceOr, Nat.reduceAnd, Nat.reduceXor, Nat.reduceDiv, if_pos, if_neg, aStore, frz, AV.flat, ↓reduceIte, ne_eq, reduceCtorEq, Int.reduceToNat, Nat.reduceEqDiff, Nat.reduceAdd, Nat.reduceSub, Nat.reduceMul, Int.reduceAdd, Int.reduceMul, Int.reduceSub, Int.reduceLT, Int.reduceLE, Int.reduceEq, Int.reduceNe, Nat.reduceLeDiff, Nat.reduceLT, Int.reduceNeg, Nat.reducePow, Nat.reduceMod, ByteArray.size, iR, ← hx]))
      refine ⟨(k + 1, gs, c), by simp only; omega, by simp only; omega, le_fun rfl (Nat.le_refl _) ?_ ?_⟩
      · simp (disch := omega) only [wP, wZ, undef, UInt8.reduceToNat, Nat.reduceOr, Nat.reduceAnd, Nat.reduceXor, Nat.reduceDiv, if_pos, if_neg, aStore, frz, AV.flat, ↓reduceIte, ne_eq, reduceCtorEq, Int.reduceToNat, Nat.reduceEqDiff, Nat.reduceAdd, Nat.reduceSub, Nat.reduceMul, Int.reduceAdd, Int.reduceMul, Int.reduceSub, Int.reduceLT, Int.reduceLE, Int.reduceEq, Int.reduceNe, Nat.reduceLeDiff, Nat.reduceLT, Int.reduceNeg, Nat.reducePow, Nat.reduceMod, ByteArray.size]
      · exact (trH_same hx.symm).symm
    · have d0 : decide ((0 : Int) < (x : Int)) = true := decide_eq_true (by omega)
      have hsl := length_syms_le (l := l) (k := k) (n := x) hk
      have hcs := trC_set (c := c) (gs := gs) (by omega) c0 hx.symm
      repeat (first | refine wA ?_ | refine wB ?_ | refine wC rfl ?_ | refine wD rfl ?_ | refine wE ?_ | refine wF (by omega) ?_ | ((first | refine wG ?_ | refine wH ?_ | refine wI ?_ | refine wJ ?_ | refine wK ?_ | refine wL ?_); simp (disch := omega) only [wP, wZ, undef, UInt8.reduceToNat, Nat.reduceOr, Nat.reduceAnd, Nat.reduceXor, Nat.reduceDiv, if_pos, if_neg, aStore, frz, AV.flat, ↓reduceIte, ne_eq, reduceCtorEq, Int.reduceToNat, Nat.reduceEqDiff, Nat.reduceAdd, Nat.reduceSub, Nat.reduceMul, Int.reduceAdd, Int.reduceMul, Int.reduceSub, Int.reduceLT, Int.reduceLE, Int.reduceEq, Int.reduceNe, Nat.reduceLeDiff, Nat.reduceLT, Int.reduceNeg, Nat.reducePow, Nat.reduceMod, ByteArray.size, iR, ← hx, d0, trH_18, trH_sym, trC_get, length_trC, Nat.mul_one]))
      refine ⟨(k + 1, fun j => if j = x then c else gs j, c + 1), by simp only; omega, by simp only; omega, le_fun rfl (Nat.le_refl _) ?_ ?_⟩
      · simp (disch := omega) only [wP, wZ, undef, UInt8.reduceToNat, Nat.reduceOr, Nat.reduceAnd, Nat.reduceXor, Nat.reduceDiv, if_pos, if_neg, aStore, frz, AV.flat, ↓reduceIte, ne_eq, reduceCtorEq, Int.reduceToNat, Nat.reduceEqDiff, Nat.reduceAdd, Nat.reduceSub, Nat.reduceMul, Int.reduceAdd, Int.reduceMul, Int.reduceSub, Int.reduceLT, Int.reduceLE, Int.reduceEq, Int.reduceNe, Nat.reduceLeDiff, Nat.reduceLT, Int.reduceNeg, Nat.reducePow, Nat.reduceMod, ByteArray.size]
      · exact trH_next (by omega) c0 hx.symm hcs
  · simp only [decide_eq_false_iff_not] at h
    obtain rfl : k = l.length := by omega
    refine SWp.le (st' := ⟨look [(5, .op 18 0 0)], trH l l.length gs, c, 44⟩) (le_fun rfl (Nat.le_refl _) ?_ rfl) ?_
    · simp (disch := omega) only [wP, wZ, undef, UInt8.reduceToNat, Nat.reduceOr, Nat.reduceAnd, Nat.reduceXor, Nat.reduceDiv, if_pos, if_neg, aStore, frz, AV.flat, ↓reduceIte, ne_eq, reduceCtorEq, Int.reduceToNat, Nat.reduceEqDiff, Nat.reduceAdd, Nat.reduceSub, Nat.reduceMul, Int.reduceAdd, Int.reduceMul, Int.reduceSub, Int.reduceLT, Int.reduceLE, Int.reduceEq, Int.reduceNe, Nat.reduceLeDiff, Nat.reduceLT, Int.reduceNeg, Nat.reducePow, Nat.reduceMod, ByteArray.size]
    refine SWp.frzN 18 0 200 16 (nl := false) (pre := (r16 (fr l)).map nA) (post := [.sc (.int .i64 (kraft l : Nat))]) (gs := gs) (ls := fun n => nl0 (syms l l.length n).length) (xs := fun n => (syms l l.length n).map nA) (by omega) ?_ ?_ (fun _ _ => free_nA) free_nA rfl ?_ ?_
    · rw [trH_18]
      simp only [trC, ownR, mixR, Nat.not_lt_zero, if_false, List.length_map]
    · intro i hi
      exact trH_sym hi
    · intro t i hi
      by_cases e : t = 5
      · subst e
        show fzo _ _ _ _ (.op 18 0 0) = .op 18 0 0
        rw [fzo_op, if_neg (by omega)]
      · have : look [(5, AV.op 18 0 0)] t = .junk := by simp only [look]; rw [if_neg e]
        rw [this]; rfl
    have hm : (r16 (fr l)).map nA ++ mixR 200 16 16 gs (fun n => nl0 (syms l l.length n).length) (fun n => (syms l l.length n).map nA) ++ [.sc (.int .i64 (kraft l : Nat))] = trR l := by
      unfold trR
      have : mixR 200 16 16 gs (fun n => nl0 (syms l l.length n).length) (fun n => (syms l l.length n).map nA) = (List.range 16).map (fun n => AV.sl (nl0 (syms l l.length n).length) none ((syms l l.length n).map nA)) := List.map_congr_left fun i hi => by rw [if_pos (List.mem_range.1 hi)]
      rw [this]
    have hH : mixH 18 0 200 16 16 gs (fun n => nl0 (syms l l.length n).length) (fun n => (syms l l.length n).map nA) false ((r16 (fr l)).map nA) [.sc (.int .i64 (kraft l : Nat))] 18 = some (0, .row false (trR l)) := by
      unfold mixH; rw [if_pos rfl, hm]
    refine SWp.le (le_mk (N := 44) (gc := c) (l := [(5, .op 18 0 0)]) (h := [(18, 0, .row false (trR l))]) rfl (Nat.le_refl _) ?_ ?_) ?_
    iterate 2 (case _ => simp (disch := omega) only [wP, wZ, undef, UInt8.reduceToNat, Nat.reduceOr, Nat.reduceAnd, Nat.reduceXor, Nat.reduceDiv, if_pos, if_neg, aStore, frz, AV.flat, ↓reduceIte, ne_eq, reduceCtorEq, Int.reduceToNat, Nat.reduceEqDiff, Nat.reduceAdd, Nat.reduceSub, Nat.reduceMul, Int.reduceAdd, Int.reduceMul, Int.reduceSub, Int.reduceLT, Int.reduceLE, Int.reduceEq, Int.reduceNe, Nat.reduceLeDiff, Nat.reduceLT, Int.reduceNeg, Nat.reducePow, Nat.reduceMod, ByteArray.size, hH])
    repeat (first | refine wA ?_ | refine wB ?_ | refine wC rfl ?_ | refine wD rfl ?_ | refine wE ?_ | refine wF (by omega) ?_ | ((first | refine wG ?_ | refine wH ?_ | refine wI ?_ | refine wJ ?_ | refine wK ?_ | refine wL ?_); simp (disch := omega) only [wP, wZ, undef, UInt8.reduceToNat, Nat.reduceOr, Nat.reduceAnd, Nat.reduceXor, Nat.reduceDiv, if_pos, if_neg, aStore, frz, AV.flat, ↓reduceIte, ne_eq, reduceCtorEq, Int.reduceToNat, Nat.reduceEqDiff, Nat.reduceAdd, Nat.reduceSub, Nat.reduceMul, Int.reduceAdd, Int.reduceMul, Int.reduceSub, Int.reduceLT, Int.reduceLE, Int.reduceEq, Int.reduceNe, Nat.reduceLeDiff, Nat.reduceLT, Int.reduceNeg, Nat.reducePow, Nat.reduceMod, ByteArray.size, hfT]))
    all_goals trace_state
end Go.Proofs.YtokdmakljdhjiaaDoor.Aw

namespace Go.Proofs.YtokdmakljdhjiaaDoor.Aw
open Go
set_option linter.unusedSimpArgs false
set_option linter.unusedVariables false

theorem length_symsF {l : List Nat} {n : Nat} : (syms l l.length n).length = cn l n := by
  rw [length_syms (Nat.le_refl _), List.take_length]; rfl
theorem length_trR {l : List Nat} : (trR l).length = 33 := by simp [trR, length_r16]
theorem trR_fr {l : List Nat} {n : Nat} (h : n < 16) : (trR l).getD n .junk = .sc (.int .i64 ((fr l n : Nat) : Int)) := by
  unfold trR
  rw [List.append_assoc]
  simp only [List.getD]
  rw [List.getElem?_append_left (by simp [length_r16]; exact h)]
  simp [r16, h, nA]
theorem trR_sym {l : List Nat} {n : Nat} (h : n < 16) : (trR l).getD (16 + n) .junk = .sl (nl0 (cn l n)) none ((syms l l.length n).map nA) := by
  unfold trR
  simp only [List.getD]
  rw [List.getElem?_append_left (by simp [length_r16]; omega), List.getElem?_append_right (by simp [length_r16])]
  simp [length_r16, h, length_symsF]
theorem trR_last {l : List Nat} : (trR l).getD 32 .junk = .sc (.int .i64 ((kraft l : Nat) : Int)) := by
  unfold trR
  simp only [List.getD]
  rw [List.getElem?_append_right (by simp [length_r16])]
  simp [length_r16]
theorem free_trR {l : List Nat} : AV.free.freeL (trR l) = true := by
  unfold trR
  rw [free_append, free_append, free_nA]
  have : AV.free.freeL ((List.range 16).map (fun n => AV.sl (nl0 (syms l l.length n).length) none ((syms l l.length n).map nA))) = true := freeL_iff.2 fun x hx => by
    obtain ⟨n, _, rfl⟩ := List.mem_map.1 hx
    simp only [AV.free, free_nA]
  rw [this]; rfl

theorem huff_begins_c [Tabs Tryd.prog] (l : List Nat) (hK : kraft l ≤ 32768) (v n : Nat) (hv : v < 65536) (hn : n ≤ 15) : Con Tryd.prog n_huff_Tree_begins [.fp (.agg (trR l)) 0, .sc (.int .i64 (v : Int)), .sc (.int .i64 (n : Int))] (boo (decide (v * 2 ^ (15 - n) < kraft l))) := by
  refine Con.of' mix Tryd.func56 rfl Tryd.ntmps56 e_huff_Tree_begins r_huff_Tree_begins (by simp) (by simp only [AV.free, AV.free.freeL, free_trR, Bool.and_self]) rfl ?_
  unfold s_huff_Tree_begins
  have e1 : (15 : Int) - (n : Int) = ((15 - n : Nat) : Int) := by omega
  have hp : 2 ^ (15 - n) ≤ 32768 := two_pow_le (n := 15 - n) (m := 15) (by omega)
  obtain ⟨j, hj⟩ : ∃ j, j = 15 - n := ⟨_, rfl⟩
  rw [← hj] at hp e1 ⊢
  have hj15 : j ≤ 15 := by omega
  have hz : v * 2 ^ j ≤ 65536 * 32768 := Nat.mul_le_mul (by omega) hp
  obtain ⟨z, hzz⟩ : ∃ z, z = v * 2 ^ j := ⟨_, rfl⟩
  rw [← hzz] at hz ⊢
  have hd : decide ((z : Int) < ((kraft l : Nat) : Int)) = decide (z < kraft l) := decide_eq_decide.2 (by omega)
  repeat (first | refine wA ?_ | refine wB ?_ | refine wC rfl ?_ | refine wD rfl ?_ | refine wE ?_ | refine wF (by omega) ?_ | ((first | refine wG ?_ | refine wH ?_ | refine wI ?_ | refine wJ ?_ | refine wK ?_ | refine wL ?_); simp (disch := omega) only [wP, wZ, undef, UInt8.reduceToNat, Nat.reduceOr, Nat.reduceAnd, Nat.reduceXor, Nat.reduceDiv, if_pos, if_neg, aStore, frz, AV.flat, ↓reduceIte, ne_eq, reduceCtorEq, Int.reduceToNat, Nat.reduceEqDiff, Nat.reduceAdd, Nat.reduceSub, Nat.reduceMul, Int.reduceAdd, Int.reduceMul, Int.reduceSub, Int.reduceLT, Int.reduceLE, Int.reduceEq, Int.reduceNe, Nat.reduceLeDiff, Nat.reduceLT, Int.reduceNeg, Nat.reducePow, Nat.reduceMod, ByteArray.size, e1, ← hzz, length_trR, trR_last, hd]))

/-- What stands at a row of bits: the symbol, how many bits were read, what is wrong. f: how many bits may still be read; n: how many were; v: their number. -/
def nxt (l B : List Nat) : Nat → Nat → Nat → Nat × Nat × Nat
  | 0, n, _ => (0, n, 3)
  | f + 1, n, v =>
    if B.length ≤ n then (0, n, 2) else
    if kraft l ≤ (2 * v + B.getD n 0) * 2 ^ (15 - (n + 1)) then (0, n + 1, 3) else
    if 2 * v + B.getD n 0 - fr l (n + 1) < cn l (n + 1) then ((syms l l.length (n + 1)).getD (2 * v + B.getD n 0 - fr l (n + 1)) 0, n + 1, 0) else
    nxt l B f (n + 1) (2 * v + B.getD n 0)

set_option maxHeartbeats 1000000 in
set_option maxRecDepth 100000 in
theorem huff_Next_h [Tabs Tryd.prog] (l : List Nat) (hl : l.length ≤ 320) (hK : kraft l ≤ 32768) (nl : Bool) (b : List UInt8) (hb : b.length ≤ 1000000) (i : Nat) (hi : i ≤ 8 * b.length) (r : Nat × Nat × Nat) (hr : nxt l ((bitsL b).drop i) 15 0 0 = r) :
    HCon Tryd.prog n_huff_Tree_Next [.fp (.agg (trR l)) 0, .op 1000 0 0] [.row false (rdR nl b i)] (.tup [.sc (.int .i64 (r.1 : Int)), .sc (.int .i64 (r.2.2 : Int))]) [(1000, 0, .row false (rdR nl b (i + r.2.1)))] 100 := by
  refine HCon.of' mix Tryd.func41 rfl Tryd.ntmps41 e_huff_Tree_Next r_huff_Tree_Next (by simp) (by simp only [AV.gl.glL, AV.gl, and_true]; exact ⟨glL_of_free _ _ free_trR, by omega⟩) rd_gl ?_
  unfold s_huff_Tree_Next
  repeat (first | refine wA ?_ | refine wB ?_ | refine wC rfl ?_ | refine wD rfl ?_ | refine wE ?_ | refine wF (by omega) ?_ | ((first | refine wG ?_ | refine wH ?_ | refine wI ?_ | refine wJ ?_ | refine wK ?_ | refine wL ?_); simp (disch := omega) only [wP, wZ, undef, UInt8.reduceToNat, Nat.reduceOr, Nat.reduceAnd, Nat.reduceXor, Nat.reduceDiv, if_pos, if_neg, aStore, frz, AV.flat, ↓reduceIte, ne_eq, reduceCtorEq, Int.reduceToNat, Nat.reduceEqDiff, Nat.reduceAdd, Nat.reduceSub, Nat.reduceMul, Int.reduceAdd, Int.reduceMul, Int.reduceSub, Int.reduceLT, Int.reduceLE, Int.reduceEq, Int.reduceNe, Nat.reduceLeDiff, Nat.reduceLT, Int.reduceNeg, Nat.reducePow, Nat.reduceMod, ByteArray.size]))
  refine SWp.loop (α := Nat × Nat) (fun x => mk 55 (1 + 3 * x.1) [(0, .fp (.agg (trR l)) 0), (1, .op 1000 0 0), (6, int (x.2 : Nat)), (10, int x.1)] [(1000, 0, .row false (rdR nl b (i + x.1)))])
    (fun x => x.1 ≤ 15 ∧ i + x.1 ≤ 8 * b.length ∧ x.2 < 2 ^ x.1 ∧ fr l (x.1 + 1) ≤ 2 * x.2 ∧ nxt l ((bitsL b).drop i) (15 - x.1) x.1 x.2 = r) (fun x => 15 - x.1) (0, 0) ⟨Nat.zero_le _, hi, by decide, by simp [fr, cn], hr⟩ (le_mk rfl ?_ ?_ ?_) ?_
  · exact Nat.le_refl _
  iterate 2 (case _ => simp (disch := omega) only [wP, wZ, undef, UInt8.reduceToNat, Nat.reduceOr, Nat.reduceAnd, Nat.reduceXor, Nat.reduceDiv, if_pos, if_neg, aStore, frz, AV.flat, ↓reduceIte, ne_eq, reduceCtorEq, Int.reduceToNat, Nat.reduceEqDiff, Nat.reduceAdd, Nat.reduceSub, Nat.reduceMul, Int.reduceAdd, Int.reduceMul, Int.reduceSub, Int.reduceLT, Int.reduceLE, Int.reduceEq, Int.reduceNe, Nat.reduceLeDiff, Nat.reduceLT, Int.reduceNeg, Nat.reducePow, Nat.reduceMod, ByteArray.size])
  rintro ⟨n, v⟩ ⟨hn, hin, hv, hF, hx⟩ -
  simp only at hn hin hv hF hx
  repeat (first | refine wA ?_ | refine wB ?_ | refine wC rfl ?_ | refine wD rfl ?_ | refine wE ?_ | refine wF (by omega) ?_ | ((first | refine wG ?_ | refine wH ?_ | refine wI ?_ | refine wJ ?_ | refine wK ?_ | refine wL ?_); simp (disch := omega) only [wP, wZ, undef, UInt8.reduceToNat, Nat.reduceOr, Nat.reduceAnd, Nat.reduceXor, Nat.reduceDiv, if_pos, if_neg, aStore, frz, AV.flat, ↓reduceIte, ne_eq, reduceCtorEq, Int.reduceToNat, Nat.reduceEqDiff, Nat.reduceAdd, Nat.reduceSub, Nat.reduceMul, Int.reduceAdd, Int.reduceMul, Int.reduceSub, Int.reduceLT, Int.reduceLE, Int.reduceEq, Int.reduceNe, Nat.reduceLeDiff, Nat.reduceLT, Int.reduceNeg, Nat.reducePow, Nat.reduceMod, ByteArray.size]))
  refine SWp.cond rfl (fun h => ?_) (fun h => ?_)
  · simp only [decide_eq_true_eq] at h
    have hn15 : n < 15 := by omega
    obtain ⟨f, hf⟩ : ∃ f, 15 - n = f + 1 := ⟨14 - n, by omega⟩
    have hBl : ((bitsL b).drop i).length = 8 * b.length - i := by rw [List.length_drop, length_bitsL]
    rw [hf, nxt, hBl] at hx
    have hleft := huff_left_h nl b hb (i + n) hin
    by_cases c0 : 8 * b.length - i ≤ n
    · rw [if_pos c0] at hx
      have d0 : decide (((8 * b.length - (i + n) : Nat) : Int) = 0) = true := decide_eq_true (by omega)
      subst hx
      repeat (first | refine wA ?_ | refine wB ?_ | refine wC rfl ?_ | refine wD rfl ?_ | refine wE ?_ | refine wF (by omega) ?_ | ((first | refine wG ?_ | refine wH ?_ | refine wI ?_ | refine wJ ?_ | refine wK ?_ | refine wL ?_); simp (disch := omega) only [wP, wZ, undef, UInt8.reduceToNat, Nat.reduceOr, Nat.reduceAnd, Nat.reduceXor, Nat.reduceDiv, if_pos, if_neg, aStore, frz, AV.flat, ↓reduceIte, ne_eq, reduceCtorEq, Int.reduceToNat, Nat.reduceEqDiff, Nat.reduceAdd, Nat.reduceSub, Nat.reduceMul, Int.reduceAdd, Int.reduceMul, Int.reduceSub, Int.reduceLT, Int.reduceLE, Int.reduceEq, Int.reduceNe, Nat.reduceLeDiff, Nat.reduceLT, Int.reduceNeg, Nat.reducePow, Nat.reduceMod, ByteArray.size]))
      refine goC_h [(1000, 0)] 2000 hleft (by simp) (by simp) ?_ ?_ ?_
      iterate 2 (case _ => simp (disch := omega) only [wP, wZ, undef, UInt8.reduceToNat, Nat.reduceOr, Nat.reduceAnd, Nat.reduceXor, Nat.reduceDiv, if_pos, if_neg, aStore, frz, AV.flat, ↓reduceIte, ne_eq, reduceCtorEq, Int.reduceToNat, Nat.reduceEqDiff, Nat.reduceAdd, Nat.reduceSub, Nat.reduceMul, Int.reduceAdd, Int.reduceMul, Int.reduceSub, Int.reduceLT, Int.reduceLE, Int.reduceEq, Int.reduceNe, Nat.reduceLeDiff, Nat.reduceLT, Int.reduceNeg, Nat.reducePow, Nat.reduceMod, ByteArray.size, rdR])
      repeat (first | refine wA ?_ | refine wB ?_ | refine wC rfl ?_ | refine wD rfl ?_ | refine wE ?_ | refine wF (by omega) ?_ | ((first | refine wG ?_ | refine wH ?_ | refine wI ?_ | refine wJ ?_ | refine wK ?_ | refine wL ?_); simp (disch := omega) only [wP, wZ, undef, UInt8.reduceToNat, Nat.reduceOr, Nat.reduceAnd, Nat.reduceXor, Nat.reduceDiv, if_pos, if_neg, aStore, frz, AV.flat, ↓reduceIte, ne_eq, reduceCtorEq, Int.reduceToNat, Nat.reduceEqDiff, Nat.reduceAdd, Nat.reduceSub, Nat.reduceMul, Int.reduceAdd, Int.reduceMul, Int.reduceSub, Int.reduceLT, Int.reduceLE, Int.reduceEq, Int.reduceNe, Nat.reduceLeDiff, Nat.reduceLT, Int.reduceNeg, Nat.reducePow, Nat.reduceMod, ByteArray.size, d0, rdR, iR]))
      omega
    · rw [if_neg c0] at hx
      have d0 : decide (((8 * b.length - (i + n) : Nat) : Int) = 0) = false := decide_eq_false (by omega)
      have hbd : ((bitsL b).drop i).getD n 0 = bitAt b (i + n) := by
        rw [← bitsL_get (by omega)]
        simp [List.getD]
      rw [hbd] at hx
      have hbit := huff_bit_h nl b hb (i + n) (by omega)
      have hbl := bitAt_lt (l := b) (i := i + n)
      obtain ⟨x, hxx⟩ : ∃ x, x = bitAt b (i + n) := ⟨_, rfl⟩
      rw [← hxx] at hx hbit hbl
      have hp : 2 ^ n ≤ 16384 := two_pow_le (n := n) (m := 14) (by omega)
      have hp2 : 2 ^ (n + 1) = 2 * 2 ^ n := by rw [Nat.pow_succ]; omega
      obtain ⟨w, hw⟩ : ∃ w, w = 2 * v + x := ⟨_, rfl⟩
      have hor : v * 2 ||| x = w := by
        have := Nat.two_pow_add_eq_or_of_lt (i := 1) (b := x) (by omega) v
        rw [Nat.pow_one] at this
        rw [hw, Nat.mul_comm v 2]; omega
      have hwl : w < 2 ^ (n + 1) := by omega
      have hwl2 : w < 32768 := by omega
      rw [← hw] at hx
      have hbeg := huff_begins_c l hK w (n + 1) (by omega) (by omega)
      have hfw : fr l (n + 1) ≤ w := by omega
      have hfl := fr_lt hl (n := n + 1) (by omega)
      repeat (first | refine wA ?_ | refine wB ?_ | refine wC rfl ?_ | refine wD rfl ?_ | refine wE ?_ | refine wF (by omega) ?_ | ((first | refine wG ?_ | refine wH ?_ | refine wI ?_ | refine wJ ?_ | refine wK ?_ | refine wL ?_); simp (disch := omega) only [wP, wZ, undef, UInt8.reduceToNat, Nat.reduceOr, Nat.reduceAnd, Nat.reduceXor, Nat.reduceDiv, if_pos, if_neg, aStore, frz, AV.flat, ↓reduceIte, ne_eq, reduceCtorEq, Int.reduceToNat, Nat.reduceEqDiff, Nat.reduceAdd, Nat.reduceSub, Nat.reduceMul, Int.reduceAdd, Int.reduceMul, Int.reduceSub, Int.reduceLT, Int.reduceLE, Int.reduceEq, Int.reduceNe, Nat.reduceLeDiff, Nat.reduceLT, Int.reduceNeg, Nat.reducePow, Nat.reduceMod, ByteArray.size]))
      refine goC_h [(1000, 0)] 2000 hleft (by simp) (by simp) ?_ ?_ ?_
      iterate 2 (case _ => simp (disch := omega) only [wP, wZ, undef, UInt8.reduceToNat, Nat.reduceOr, Nat.reduceAnd, Nat.reduceXor, Nat.reduceDiv, if_pos, if_neg, aStore, frz, AV.flat, ↓reduceIte, ne_eq, reduceCtorEq, Int.reduceToNat, Nat.reduceEqDiff, Nat.reduceAdd, Nat.reduceSub, Nat.reduceMul, Int.reduceAdd, Int.reduceMul, Int.reduceSub, Int.reduceLT, Int.reduceLE, Int.reduceEq, Int.reduceNe, Nat.reduceLeDiff, Nat.reduceLT, Int.reduceNeg, Nat.reducePow, Nat.reduceMod, ByteArray.size, rdR])
      repeat (first | refine wA ?_ | refine wB ?_ | refine wC rfl ?_ | refine wD rfl ?_ | refine wE ?_ | refine wF (by omega) ?_ | ((first | refine wG ?_ | refine wH ?_ | refine wI ?_ | refine wJ ?_ | refine wK ?_ | refine wL ?_); simp (disch := omega) only [wP, wZ, undef, UInt8.reduceToNat, Nat.reduceOr, Nat.reduceAnd, Nat.reduceXor, Nat.reduceDiv, if_pos, if_neg, aStore, frz, AV.flat, ↓reduceIte, ne_eq, reduceCtorEq, Int.reduceToNat, Nat.reduceEqDiff, Nat.reduceAdd, Nat.reduceSub, Nat.reduceMul, Int.reduceAdd, Int.reduceMul, Int.reduceSub, Int.reduceLT, Int.reduceLE, Int.reduceEq, Int.reduceNe, Nat.reduceLeDiff, Nat.reduceLT, Int.reduceNeg, Nat.reducePow, Nat.reduceMod, ByteArray.size, d0, rdR, iR]))
      refine goC_h [(1000, 0)] 3000 hbit (by simp) (by simp) ?_ ?_ ?_
      iterate 2 (case _ => simp (disch := omega) only [wP, wZ, undef, UInt8.reduceToNat, Nat.reduceOr, Nat.reduceAnd, Nat.reduceXor, Nat.reduceDiv, if_pos, if_neg, aStore, frz, AV.flat, ↓reduceIte, ne_eq, reduceCtorEq, Int.reduceToNat, Nat.reduceEqDiff, Nat.reduceAdd, Nat.reduceSub, Nat.reduceMul, Int.reduceAdd, Int.reduceMul, Int.reduceSub, Int.reduceLT, Int.reduceLE, Int.reduceEq, Int.reduceNe, Nat.reduceLeDiff, Nat.reduceLT, Int.reduceNeg, Nat.reducePow, Nat.reduceMod, ByteArray.size, rdR])
      repeat (first | refine wA ?_ | refine wB ?_ | refine wC rfl ?_ | refine wD rfl ?_ | refine wE ?_ | refine wF (by omega) ?_ | ((first | refine wG ?_ | refine wH ?_ | refine wI ?_ | refine wJ ?_ | refine wK ?_ | refine wL ?_); simp (disch := omega) only [wP, wZ, undef, UInt8.reduceToNat, Nat.reduceOr, Nat.reduceAnd, Nat.reduceXor, Nat.reduceDiv, if_pos, if_neg, aStore, frz, AV.flat, ↓reduceIte, ne_eq, reduceCtorEq, Int.reduceToNat, Nat.reduceEqDiff, Nat.reduceAdd, Nat.reduceSub, Nat.reduceMul, Int.reduceAdd, Int.reduceMul, Int.reduceSub, Int.reduceLT, Int.reduceLE, Int.reduceEq, Int.reduceNe, Nat.reduceLeDiff, Nat.reduceLT, Int.reduceNeg, Nat.reducePow, Nat.reduceMod, ByteArray.size, rdR, iR, Nat.pow_one, hor]))
      by_cases c1 : kraft l ≤ w * 2 ^ (15 - (n + 1))
      · rw [if_pos c1] at hx
        have dz : decide (w * 2 ^ (15 - (n + 1)) < kraft l) = false := decide_eq_false (by omega)
        rw [dz] at hbeg
        subst hx
        refine goC_p _ (.inl ⟨by simp only [AV.free, AV.free.freeL, free_trR, Bool.and_self], hbeg⟩) ?_
        repeat (first | refine wA ?_ | refine wB ?_ | refine wC rfl ?_ | refine wD rfl ?_ | refine wE ?_ | refine wF (by omega) ?_ | ((first | refine wG ?_ | refine wH ?_ | refine wI ?_ | refine wJ ?_ | refine wK ?_ | refine wL ?_); simp (disch := omega) only [wP, wZ, undef, UInt8.reduceToNat, Nat.reduceOr, Nat.reduceAnd, Nat.reduceXor, Nat.reduceDiv, if_pos, if_neg, aStore, frz, AV.flat, ↓reduceIte, ne_eq, reduceCtorEq, Int.reduceToNat, Nat.reduceEqDiff, Nat.reduceAdd, Nat.reduceSub, Nat.reduceMul, Int.reduceAdd, Int.reduceMul, Int.reduceSub, Int.reduceLT, Int.reduceLE, Int.reduceEq, Int.reduceNe, Nat.reduceLeDiff, Nat.reduceLT, Int.reduceNeg, Nat.reducePow, Nat.reduceMod, ByteArray.size, rdR, iR]))
        refine ⟨?_, by omega⟩
        rw [Int.add_assoc]
      · rw [if_neg c1] at hx
        have dz : decide (w * 2 ^ (15 - (n + 1)) < kraft l) = true := decide_eq_true (by omega)
        rw [dz] at hbeg
        obtain ⟨F, hFd⟩ : ∃ F, F = fr l (n + 1) := ⟨_, rfl⟩
        have hgF := trR_fr (l := l) (n := n + 1) (by omega)
        have hgS := trR_sym (l := l) (n := n + 1) (by omega)
        have hlS := length_symsF (l := l) (n := n + 1)
        have hcl := cn_le (l := l) (n := n + 1)
        rw [← hFd] at hgF hfw hfl hx
        have hsub : (w : Int) - (F : Int) = ((w - F : Nat) : Int) := by omega
        obtain ⟨S, hS⟩ : ∃ S, S = syms l l.length (n + 1) := ⟨_, rfl⟩
        obtain ⟨c, hc⟩ : ∃ c, c = cn l (n + 1) := ⟨_, rfl⟩
        rw [← hS] at hgS hlS hx
        rw [← hc] at hgS hlS hcl hx
        obtain ⟨j, hj⟩ : ∃ j, j = w - F := ⟨_, rfl⟩
        rw [← hj] at hsub hx
        refine goC_p _ (.inl ⟨by simp only [AV.free, AV.free.freeL, free_trR, Bool.and_self], hbeg⟩) ?_
        by_cases c2 : j < c
        · rw [if_pos c2] at hx
          have d2 : decide ((j : Int) < (c : Int)) = true := decide_eq_true (by omega)
          subst hx
          repeat (first | refine wA ?_ | refine wB ?_ | refine wC rfl ?_ | refine wD rfl ?_ | refine wE ?_ | refine wF (by omega) ?_ | ((first | refine wG ?_ | refine wH ?_ | refine wI ?_ | refine wJ ?_ | refine wK ?_ | refine wL ?_); simp (disch := omega) only [wP, wZ, undef, UInt8.reduceToNat, Nat.reduceOr, Nat.reduceAnd, Nat.reduceXor, Nat.reduceDiv, if_pos, if_neg, aStore, frz, AV.flat, ↓reduceIte, ne_eq, reduceCtorEq, Int.reduceToNat, Nat.reduceEqDiff, Nat.reduceAdd, Nat.reduceSub, Nat.reduceMul, Int.reduceAdd, Int.reduceMul, Int.reduceSub, Int.reduceLT, Int.reduceLE, Int.reduceEq, Int.reduceNe, Nat.reduceLeDiff, Nat.reduceLT, Int.reduceNeg, Nat.reducePow, Nat.reduceMod, ByteArray.size, rdR, iR, length_trR, hgF, hgS, hlS, hsub, d2]))
          refine ⟨?_, by omega⟩
          rw [Int.add_assoc]
        · rw [if_neg c2] at hx
          have d2 : decide ((j : Int) < (c : Int)) = false := decide_eq_false (by omega)
          have hnx : fr l (n + 1 + 1) ≤ 2 * w := by
            rw [fr, ← hFd, ← hc]; omega
          repeat (first | refine wA ?_ | refine wB ?_ | refine wC rfl ?_ | refine wD rfl ?_ | refine wE ?_ | refine wF (by omega) ?_ | ((first | refine wG ?_ | refine wH ?_ | refine wI ?_ | refine wJ ?_ | refine wK ?_ | refine wL ?_); simp (disch := omega) only [wP, wZ, undef, UInt8.reduceToNat, Nat.reduceOr, Nat.reduceAnd, Nat.reduceXor, Nat.reduceDiv, if_pos, if_neg, aStore, frz, AV.flat, ↓reduceIte, ne_eq, reduceCtorEq, Int.reduceToNat, Nat.reduceEqDiff, Nat.reduceAdd, Nat.reduceSub, Nat.reduceMul, Int.reduceAdd, Int.reduceMul, Int.reduceSub, Int.reduceLT, Int.reduceLE, Int.reduceEq, Int.reduceNe, Nat.reduceLeDiff, Nat.reduceLT, Int.reduceNeg, Nat.reducePow, Nat.reduceMod, ByteArray.size, rdR, iR, length_trR, hgF, hgS, hlS, hsub, d2]))
          refine At.of (n + 1, w) ⟨by simp only; omega, by simp only; omega, hwl, hnx, by simp only; rw [show 15 - (n + 1) = f by omega]; exact hx⟩ (by simp only; omega) rfl rfl ?_ ?_ ?_
          · simp only; omega
          iterate 2 (case _ => simp (disch := omega) only [wP, wZ, undef, UInt8.reduceToNat, Nat.reduceOr, Nat.reduceAnd, Nat.reduceXor, Nat.reduceDiv, if_pos, if_neg, aStore, frz, AV.flat, ↓reduceIte, ne_eq, reduceCtorEq, Int.reduceToNat, Nat.reduceEqDiff, Nat.reduceAdd, Nat.reduceSub, Nat.reduceMul, Int.reduceAdd, Int.reduceMul, Int.reduceSub, Int.reduceLT, Int.reduceLE, Int.reduceEq, Int.reduceNe, Nat.reduceLeDiff, Nat.reduceLT, Int.reduceNeg, Nat.reducePow, Nat.reduceMod, ByteArray.size, rdR, Int.add_assoc])
  · simp only [decide_eq_false_iff_not] at h
    obtain rfl : n = 15 := by omega
    have hx : r = (0, 15, 3) := by rw [← hx]; rfl
    subst hx
    repeat (first | refine wA ?_ | refine wB ?_ | refine wC rfl ?_ | refine wD rfl ?_ | refine wE ?_ | refine wF (by omega) ?_ | ((first | refine wG ?_ | refine wH ?_ | refine wI ?_ | refine wJ ?_ | refine wK ?_ | refine wL ?_); simp (disch := omega) only [wP, wZ, undef, UInt8.reduceToNat, Nat.reduceOr, Nat.reduceAnd, Nat.reduceXor, Nat.reduceDiv, if_pos, if_neg, aStore, frz, AV.flat, ↓reduceIte, ne_eq, reduceCtorEq, Int.reduceToNat, Nat.reduceEqDiff, Nat.reduceAdd, Nat.reduceSub, Nat.reduceMul, Int.reduceAdd, Int.reduceMul, Int.reduceSub, Int.reduceLT, Int.reduceLE, Int.reduceEq, Int.reduceNe, Nat.reduceLeDiff, Nat.reduceLT, Int.reduceNeg, Nat.reducePow, Nat.reduceMod, ByteArray.size, rdR, iR]))
    all_goals trace_state

theorem ren_tree {ρ : Nat → Nat → Nat × Nat} {l : List Nat} : ren ρ (.fp (.agg (trR l)) 0) = .fp (.agg (trR l)) 0 := ren_free ρ _ (by simp only [AV.free, free_trR])
theorem nxt_facts {l B : List Nat} : ∀ (f n v : Nat), n ≤ B.length → (nxt l B f n v).2.1 ≤ B.length ∧ ((nxt l B f n v).2.2 = 0 ∨ ((nxt l B f n v).2.2 = 2 ∧ (nxt l B f n v).2.1 = B.length) ∨ (nxt l B f n v).2.2 = 3)
  | 0, n, v, h => ⟨h, .inr (.inr rfl)⟩
  | f + 1, n, v, h => by
    rw [nxt]
    split
    · exact ⟨h, .inr (.inl ⟨rfl, by simp only; omega⟩)⟩
    · split
      · exact ⟨by simp only; omega, .inr (.inr rfl)⟩
      · split
        · exact ⟨by simp only; omega, .inl rfl⟩
        · exact nxt_facts f (n + 1) _ (by omega)

end Go.Proofs.YtokdmakljdhjiaaDoor.Aw

namespace Go.Proofs.YtokdmakljdhjiaaDoor.Aw
open Go
set_option linter.unusedSimpArgs false
set_option linter.unusedVariables false

/-- A reading: an answer, a fault, a question for the place, a question for the next bit. -/
inductive BT (α : Type) where
  | ret (a : α) : BT α
  | err (e : Nat) : BT α
  | pos (k : Nat → BT α) : BT α
  | bit (k : Nat → BT α) : BT α
/-- What comes of it: an answer and the place behind, or a fault. -/
inductive BR (α : Type) where
  | ok (a : α) (i : Nat) : BR α
  | no (e : Nat) : BR α
def BR.bnd {α β : Type} : BR α → (α → Nat → BR β) → BR β
  | .ok a i, f => f a i
  | .no e, _ => .no e
def BT.bnd {α β : Type} : BT α → (α → BT β) → BT β
  | .ret a, f => f a
  | .err e, _ => .err e
  | .pos k, f => .pos fun i => (k i).bnd f
  | .bit k, f => .bit fun x => (k x).bnd f
def BT.run {α : Type} (B : List Nat) : BT α → Nat → BR α
  | .ret a, i => .ok a i
  | .err e, _ => .no e
  | .pos k, i => (k i).run B i
  | .bit k, i => if i < B.length then (k (B.getD i 0)).run B (i + 1) else .no 2
theorem run_bnd {α β : Type} {B : List Nat} {f : α → BT β} : ∀ {t : BT α} {i : Nat}, (t.bnd f).run B i = (t.run B i).bnd fun a j => (f a).run B j
  | .ret _, _ => rfl
  | .err _, _ => rfl
  | .pos k, i => by simp only [BT.bnd, BT.run]; exact run_bnd
  | .bit k, i => by
    simp only [BT.bnd, BT.run]
    split
    · exact run_bnd
    · rfl
theorem run_ok {α : Type} {B : List Nat} {a : α} {j : Nat} : ∀ {t : BT α} {i : Nat}, t.run B i = .ok a j → i ≤ j ∧ (i ≤ B.length → j ≤ B.length)
  | .ret _, i, h => by simp only [BT.run, BR.ok.injEq] at h; omega
  | .err _, _, h => by simp [BT.run] at h
  | .pos k, i, h => by simp only [BT.run] at h; exact run_ok h
  | .bit k, i, h => by
    simp only [BT.run] at h
    split at h
    · have := run_ok h; exact ⟨by omega, fun _ => this.2 (by omega)⟩
    · cases h
/-- The number of the next n bits. -/
def numT : Nat → BT Nat
  | 0 => .ret 0
  | n + 1 => .bit fun x => (numT n).bnd fun y => .ret (x + 2 * y)
theorem run_numT {B : List Nat} : ∀ {n i : Nat}, i ≤ B.length → (numT n).run B i = if i + n ≤ B.length then .ok (numB ((B.drop i).take n)) (i + n) else .no 2
  | 0, i, h => by rw [if_pos (by omega)]; rfl
  | n + 1, i, h => by
    simp only [numT, BT.run, run_bnd]
    by_cases c : i < B.length
    · rw [if_pos c, run_numT (by omega)]
      by_cases c2 : i + (n + 1) ≤ B.length
      · rw [if_pos (by omega), if_pos c2]
        simp only [BR.bnd, BT.run]
        have : B.drop i = B.getD i 0 :: B.drop (i + 1) := by
          rw [List.drop_eq_getElem_cons c]; simp [List.getD, List.getElem?_eq_getElem c]
        rw [this, List.take_succ_cons, numB]
        congr 1
        omega
      · rw [if_neg (by omega), if_neg c2]; rfl
    · rw [if_neg c, if_neg (by omega)]
theorem numAt_eq {b : List UInt8} {i n : Nat} (h : i + n ≤ 8 * b.length) : numB (((bitsL b).drop i).take n) = numAt b i n := by
  unfold numAt
  congr 1
  apply List.ext_getElem?
  intro k
  rw [List.getElem?_take]
  by_cases hk : k < n
  · have hj : i + k < 8 * b.length := by omega
    have hj2 : i + k < (bitsL b).length := by rw [length_bitsL]; exact hj
    rw [if_pos hk, List.getElem?_drop, List.getElem?_map, List.getElem?_range hk, List.getElem?_eq_getElem hj2]
    simp only [Option.map_some, Option.some.injEq]
    rw [← bitsL_get hj]
    simp [List.getD, List.getElem?_eq_getElem hj2]
  · rw [if_neg hk, List.getElem?_eq_none (by simp; omega)]
theorem run_num {b : List UInt8} {i n : Nat} (h : i ≤ 8 * b.length) : (numT n).run (bitsL b) i = if i + n ≤ 8 * b.length then .ok (numAt b i n) (i + n) else .no 2 := by
  rw [run_numT (by rw [length_bitsL]; exact h), length_bitsL]
  split
  · rw [numAt_eq (by assumption)]
  · rfl

/-- The next symbol of a code. -/
def nxtT (l : List Nat) : Nat → Nat → Nat → BT Nat
  | 0, _, _ => .err 3
  | f + 1, n, v => .bit fun x =>
    if kraft l ≤ (2 * v + x) * 2 ^ (15 - (n + 1)) then .err 3 else
    if 2 * v + x - fr l (n + 1) < cn l (n + 1) then .ret ((syms l l.length (n + 1)).getD (2 * v + x - fr l (n + 1)) 0) else
    nxtT l f (n + 1) (2 * v + x)
def nxtR (i : Nat) (r : Nat × Nat × Nat) : BR Nat := if r.2.2 = 0 then .ok r.1 (i + r.2.1) else .no r.2.2
theorem run_nxtT {l B : List Nat} {i : Nat} : ∀ {f n v : Nat}, (nxtT l f n v).run B (i + n) = nxtR i (nxt l (B.drop i) f n v)
  | 0, n, v => rfl
  | f + 1, n, v => by
    have hg : (B.drop i).getD n 0 = B.getD (i + n) 0 := by simp [List.getD]
    rw [nxt, hg]
    simp only [nxtT, BT.run]
    by_cases c : i + n < B.length
    · rw [if_pos c, if_neg (show ¬ (B.drop i).length ≤ n by rw [List.length_drop]; omega)]
      split
      · rfl
      · split
        · simp only [BT.run, nxtR, if_true, Nat.add_assoc]
        · exact run_nxtT (n := n + 1)
    · rw [if_neg c, if_pos (show (B.drop i).length ≤ n by rw [List.length_drop]; omega)]; rfl
theorem run_nxt {l B : List Nat} {i : Nat} : (nxtT l 15 0 0).run B i = nxtR i (nxt l (B.drop i) 15 0 0) := run_nxtT (n := 0)

def plusT (v n : Nat) : BT Nat := (numT n).bnd fun x => .ret (v + x)
def lenT (s : Nat) : BT Nat := if 29 ≤ s then .err 3 else if s = 28 then .ret 258 else if s < 8 then .ret (3 + s) else plusT (3 + (4 + s % 4) * 2 ^ (s / 4 - 1)) (s / 4 - 1)
def disT (s : Nat) : BT Nat := if 30 ≤ s then .err 3 else if s < 4 then .ret (1 + s) else plusT (1 + (2 + s % 2) * 2 ^ (s / 2 - 1)) (s / 2 - 1)
theorem plusT_le {B : List Nat} (hB : ∀ x ∈ B, x < 2) {v n i a j : Nat} (h : (plusT v n).run B i = .ok a j) : a < v + 2 ^ n := by
  rw [plusT, run_bnd] at h
  have key : ∀ (n i a j : Nat), (numT n).run B i = .ok a j → a < 2 ^ n := by
    intro n
    induction n with
    | zero => intro i a j h; simp only [numT, BT.run, BR.ok.injEq] at h; omega
    | succ n ih =>
      intro i a j h
      simp only [numT, BT.run, run_bnd] at h
      split at h
      · rename_i hi
        have hx : B.getD i 0 < 2 := by
          have : B.getD i 0 = B[i] := by simp [List.getD, List.getElem?_eq_getElem hi]
          rw [this]; exact hB _ (List.getElem_mem hi)
        cases hr : (numT n).run B (i + 1) with
        | no e => rw [hr] at h; cases h
        | ok y k =>
          rw [hr] at h
          have := ih _ _ _ hr
          simp only [BR.bnd, BT.run, BR.ok.injEq] at h
          rw [Nat.pow_succ]; omega
      · cases h
  cases hr : (numT n).run B i with
  | no e => rw [hr] at h; cases h
  | ok y k =>
    rw [hr] at h
    have := key _ _ _ _ hr
    simp only [BR.bnd, BT.run, BR.ok.injEq] at h
    omega
theorem plusT_ge {B : List Nat} {v n i a j : Nat} (h : (plusT v n).run B i = .ok a j) : v ≤ a := by
  rw [plusT, run_bnd] at h
  cases hr : (numT n).run B i with
  | no e => rw [hr] at h; cases h
  | ok y k => rw [hr] at h; simp only [BR.bnd, BT.run, BR.ok.injEq] at h; omega
theorem lenT_le {b : List UInt8} {s i a j : Nat} (h : (lenT s).run (bitsL b) i = .ok a j) : a ≤ 258 := by
  unfold lenT at h
  split at h
  · cases h
  · split at h
    · simp only [BT.run, BR.ok.injEq] at h; omega
    · split at h
      · simp only [BT.run, BR.ok.injEq] at h; omega
      · have := plusT_le bitsL_lt h
        rename_i h1 h2 h3
        have hk : s / 4 - 1 = 1 ∨ s / 4 - 1 = 2 ∨ s / 4 - 1 = 3 ∨ s / 4 - 1 = 4 ∨ s / 4 - 1 = 5 := by omega
        have hm : s % 4 < 4 := by omega
        generalize s % 4 = m at *
        generalize s / 4 - 1 = k at *
        rcases hk with rfl | rfl | rfl | rfl | rfl <;> omega
theorem disT_le {b : List UInt8} {s i a j : Nat} (h : (disT s).run (bitsL b) i = .ok a j) : 1 ≤ a ∧ a ≤ 32768 := by
  unfold disT at h
  split at h
  · cases h
  · split at h
    · simp only [BT.run, BR.ok.injEq] at h; omega
    · have h2 := plusT_le bitsL_lt h
      have h3 : 1 ≤ a := by
        rw [plusT, run_bnd] at h
        cases hr : (numT (s / 2 - 1)).run (bitsL b) i with
        | no e => rw [hr] at h; cases h
        | ok y k => rw [hr] at h; simp only [BR.bnd, BT.run, BR.ok.injEq] at h; omega
      refine ⟨h3, ?_⟩
      have hk : 2 ^ (s / 2 - 1) ≤ 8192 := two_pow_le (n := s / 2 - 1) (m := 13) (by omega)
      have hm : s % 2 < 2 := by omega
      generalize s % 2 = m at *
      generalize 2 ^ (s / 2 - 1) = p at *
      obtain rfl | rfl : m = 0 ∨ m = 1 := by omega
      · omega
      · omega
/-- Bytes that are copied, one behind the other, from so far back. -/
def cpy (out : List UInt8) (k : Nat) : Nat → List UInt8
  | 0 => out
  | n + 1 => cpy (out ++ [out.getD (out.length - k) 0]) k n
theorem length_cpy {k : Nat} : ∀ {n : Nat} {out : List UInt8}, (cpy out k n).length = out.length + n
  | 0, _ => rfl
  | n + 1, out => by rw [cpy, length_cpy, List.length_append, List.length_singleton]; omega
theorem cpy_snoc {k : Nat} : ∀ {n : Nat} {out : List UInt8}, cpy out k (n + 1) = cpy out k n ++ [(cpy out k n).getD ((cpy out k n).length - k) 0]
  | 0, out => rfl
  | n + 1, out => by
    show cpy (out ++ [out.getD (out.length - k) 0]) k (n + 1) = _
    rw [cpy_snoc]; rfl
def runT (most : Nat) (d : List Nat) (out : List UInt8) (s : Nat) : BT (List UInt8) :=
  (lenT s).bnd fun n => (nxtT d 15 0 0).bnd fun t => (disT t).bnd fun k =>
    if out.length < k then .err 3 else if most < out.length + n then .err 4 else .ret (cpy out k n)
def symT (l d : List Nat) (most : Nat) : Nat → List UInt8 → BT (List UInt8)
  | 0, _ => .err 2
  | f + 1, out => (nxtT l 15 0 0).bnd fun s =>
    if s < 256 then (if most ≤ out.length then .err 4 else symT l d most f (out ++ [UInt8.ofNat s])) else
    if s = 256 then .ret out else (runT most d out (s - 257)).bnd fun o => symT l d most f o
def bytT : Nat → BT (List UInt8)
  | 0 => .ret []
  | n + 1 => (numT 8).bnd fun x => (bytT n).bnd fun r => .ret (UInt8.ofNat x :: r)
def stoT (most : Nat) (out : List UInt8) : BT (List UInt8) :=
  .pos fun i => (numT ((i + 7) / 8 * 8 - i)).bnd fun _ => (numT 16).bnd fun n => (numT 16).bnd fun m =>
    if n + m ≠ 65535 then .err 3 else (bytT n).bnd fun bs => if most < out.length + n then .err 4 else .ret (out ++ bs)
def tells : List Nat := [16, 17, 18, 0, 8, 7, 9, 6, 10, 5, 11, 4, 12, 3, 13, 2, 14, 1, 15]
def telT : Nat → Nat → List Nat → BT (List Nat)
  | 0, _, l => .ret l
  | n + 1, k, l => (numT 3).bnd fun x => telT n (k + 1) (l.set (tells.getD k 0) x)
def lsV (s : Nat) (l : List Nat) : Nat := if s = 16 then l.getD (l.length - 1) 0 else if s = 17 ∨ s = 18 then 0 else s
def lsN (s : Nat) : Nat := if s = 16 ∨ s = 17 then 3 else if s = 18 then 11 else 1
def lsB (s : Nat) : Nat := if s = 16 then 2 else if s = 17 then 3 else if s = 18 then 7 else 0
def lsT (th : List Nat) (n : Nat) : Nat → List Nat → BT (List Nat)
  | 0, _ => .err 3
  | f + 1, l => if n ≤ l.length then .ret l else (nxtT th 15 0 0).bnd fun s =>
    if s = 16 ∧ l = [] then .err 3 else (plusT (lsN s) (lsB s)).bnd fun t => if n < l.length + t then .err 3 else lsT th n f (l ++ List.replicate t (lsV s l))
/-- Are lengths full? (At most 15 each.) -/
def fulN (l : List Nat) : Bool := decide (l.length ≤ 320 ∧ kraft l = 32768)
def fewN (l : List Nat) : Bool := decide (l.sum ≤ 1) || fulN l
def codN (l d : List Nat) : Bool := decide (l.getD 256 0 ≠ 0) && fulN l && fewN d
def tlrT (n : Nat) : BT (List Nat) := (telT n 0 (List.replicate 19 0)).bnd fun th => if fulN th = true then .ret th else .err 3
def tolT : BT (List Nat × List Nat) :=
  (numT 14).bnd fun c => if 286 < c % 32 + 257 ∨ 30 < c / 32 % 32 + 1 then .err 3 else
    (tlrT (c / 1024 + 4)).bnd fun th => (lsT th (c % 32 + 257 + (c / 32 % 32 + 1)) 400 []).bnd fun ls =>
      if codN (ls.take (c % 32 + 257)) (ls.drop (c % 32 + 257)) = true then .ret (ls.take (c % 32 + 257), ls.drop (c % 32 + 257)) else .err 3
def fixL : List Nat := List.replicate 144 8 ++ (List.replicate 112 9 ++ (List.replicate 24 7 ++ List.replicate 8 8))
def fixD : List Nat := List.replicate 32 5
def bodT (most F : Nat) (out : List UInt8) (h : Nat) : BT (List UInt8) :=
  if h = 0 then stoT most out else if h = 1 then symT fixL fixD most F out else
  if h = 2 then tolT.bnd fun p => symT p.1 p.2 most F out else .err 3
def blkT (most F : Nat) (out : List UInt8) : BT (Bool × List UInt8) :=
  (numT 3).bnd fun h => (bodT most F out (h / 2)).bnd fun o => .ret (decide (h % 2 = 1), o)
def infT (most F : Nat) : Nat → List UInt8 → BT (List UInt8)
  | 0, _ => .err 2
  | f + 1, out => (blkT most F out).bnd fun p => if p.1 = true then .ret p.2 else infT most F f p.2
/-- The answer: bytes, how many were taken, what is wrong. -/
def gotR : BR (List UInt8) → List UInt8 × Nat × Nat
  | .ok o j => (o, (j + 7) / 8, 0)
  | .no e => ([], 0, e)
def infR (F : Nat) (b : List UInt8) (most : Nat) : List UInt8 × Nat × Nat := gotR ((infT most F F []).run (bitsL b) 0)

theorem run_bytT {b : List UInt8} : ∀ {n j : Nat}, j ≤ b.length → (bytT n).run (bitsL b) (8 * j) = if j + n ≤ b.length then .ok ((b.drop j).take n) (8 * (j + n)) else .no 2
  | 0, j, h => by rw [if_pos (by omega)]; rfl
  | n + 1, j, h => by
    simp only [bytT, run_bnd]
    rw [run_num (by omega)]
    by_cases c : j < b.length
    · rw [if_pos (by omega)]
      simp only [BR.bnd, run_bnd]
      rw [show 8 * j + 8 = 8 * (j + 1) by omega, run_bytT (by omega)]
      by_cases c2 : j + (n + 1) ≤ b.length
      · rw [if_pos (by omega), if_pos c2]
        simp only [BR.bnd, BT.run]
        have e : b.drop j = b.getD j 0 :: b.drop (j + 1) := by
          rw [List.drop_eq_getElem_cons c]; simp [List.getD, List.getElem?_eq_getElem c]
        have e2 : UInt8.ofNat (numAt b (8 * j) 8) = b.getD j 0 := by
          have h1 : (bitsL b).drop (8 * j) = bitsB (b.getD j 0) ++ bitsL (b.drop (j + 1)) := by
            conv => lhs; rw [← List.take_append_drop j b, bitsL_append]
            rw [List.drop_append, length_bitsL, List.length_take, Nat.min_eq_left (by omega), Nat.sub_self, List.drop_zero, List.drop_of_length_le (by rw [length_bitsL, List.length_take]; omega), List.nil_append, e]
            simp [bitsL]
          rw [← numAt_eq (by omega), h1, List.take_append_of_le_length (by rw [length_bitsB]; exact Nat.le_refl _), List.take_of_length_le (by rw [length_bitsB]; exact Nat.le_refl _)]
          have := (b.getD j 0).toNat_lt
          have h2 : numB (bitsB (b.getD j 0)) = (b.getD j 0).toNat := numB_bitsB
          rw [h2]; exact UInt8.ofNat_toNat
        rw [e2, e, List.take_succ_cons]
        congr 1
        omega
      · rw [if_neg (by omega), if_neg c2]
    · rw [if_neg (by omega), if_neg (by omega)]; rfl
where
  numB_bitsB {c : UInt8} : numB (bitsB c) = c.toNat := by
    have := c.toNat_lt
    simp only [bitsB, show List.range 8 = [0, 1, 2, 3, 4, 5, 6, 7] from rfl, List.map_cons, List.map_nil, numB]
    omega

theorem run_stoT {b : List UInt8} {most : Nat} {out : List UInt8} {i : Nat} (hi : i ≤ 8 * b.length) :
    (stoT most out).run (bitsL b) i =
      if 8 * b.length < (i + 7) / 8 * 8 + 16 then .no 2 else if 8 * b.length < (i + 7) / 8 * 8 + 32 then .no 2 else
      if numAt b ((i + 7) / 8 * 8) 16 + numAt b ((i + 7) / 8 * 8 + 16) 16 ≠ 65535 then .no 3 else
      if b.length < (i + 7) / 8 + 4 + numAt b ((i + 7) / 8 * 8) 16 then .no 2 else
      if most < out.length + numAt b ((i + 7) / 8 * 8) 16 then .no 4 else
      .ok (out ++ (b.drop ((i + 7) / 8 + 4)).take (numAt b ((i + 7) / 8 * 8) 16)) (8 * ((i + 7) / 8 + 4 + numAt b ((i + 7) / 8 * 8) 16)) := by
  obtain ⟨q, hq⟩ : ∃ q, q = (i + 7) / 8 := ⟨_, rfl⟩
  rw [← hq]
  simp only [stoT, BT.run, run_bnd]
  rw [← hq, run_num hi, if_pos (by omega)]
  simp only [BR.bnd, run_bnd]
  rw [show i + (q * 8 - i) = q * 8 by omega, run_num (by omega)]
  by_cases c1 : 8 * b.length < q * 8 + 16
  · rw [if_neg (by omega), if_pos c1]
  · rw [if_pos (by omega), if_neg c1]
    simp only [BR.bnd, run_bnd]
    rw [run_num (by omega)]
    by_cases c2 : 8 * b.length < q * 8 + 32
    · rw [if_neg (by omega), if_pos c2]
    · rw [if_pos (by omega), if_neg c2]
      simp only [BR.bnd]
      split
      · rfl
      · rw [run_bnd, show q * 8 + 16 + 16 = 8 * (q + 4) by omega, run_bytT (by omega)]
        by_cases c3 : b.length < q + 4 + numAt b (q * 8) 16
        · rw [if_neg (by omega), if_pos c3]; rfl
        · rw [if_pos (by omega), if_neg c3]
          simp only [BR.bnd]
          split
          · rfl
          · rfl
/-- Each error in a reading is one. -/
inductive BT.safe {α : Type} : BT α → Prop where
  | ret (a : α) : BT.safe (.ret a)
  | err (e : Nat) (h : e ≠ 0 ∧ e ≤ 10) : BT.safe (.err e)
  | pos (k : Nat → BT α) (h : ∀ i, BT.safe (k i)) : BT.safe (.pos k)
  | bit (k : Nat → BT α) (h : ∀ x, BT.safe (k x)) : BT.safe (.bit k)
theorem safe_bnd {α β : Type} {f : α → BT β} {t : BT α} (h : t.safe) (h2 : ∀ a, (f a).safe) : (t.bnd f).safe := by
  induction h with
  | ret a => exact h2 a
  | err e h => exact .err e h
  | pos k _ ih => exact .pos _ ih
  | bit k _ ih => exact .bit _ ih
theorem safe_run {α : Type} {B : List Nat} {e : Nat} {t : BT α} (h : t.safe) : ∀ {i : Nat}, t.run B i = .no e → e ≠ 0 ∧ e ≤ 10 := by
  induction h with
  | ret a => intro i h; simp [BT.run] at h
  | err e h => intro i h2; simp only [BT.run, BR.no.injEq] at h2; subst h2; exact h
  | pos k _ ih => intro i h2; simp only [BT.run] at h2; exact ih _ h2
  | bit k _ ih =>
    intro i h2
    simp only [BT.run] at h2
    split at h2
    · exact ih _ h2
    · simp only [BR.no.injEq] at h2; omega
theorem safe_ret {α : Type} {a : α} : (BT.ret a).safe := .ret a
theorem safe_ite {α : Type} {c : Prop} [Decidable c] {a b : BT α} (ha : a.safe) (hb : b.safe) : (if c then a else b).safe := by split <;> assumption
theorem safe_err {α : Type} {e : Nat} (h : e ≠ 0 ∧ e ≤ 10) : (BT.err e : BT α).safe := .err e h
theorem safe_num : ∀ {n : Nat}, (numT n).safe
  | 0 => .ret _
  | _ + 1 => .bit _ fun _ => safe_bnd safe_num fun _ => .ret _
theorem safe_nxt {l : List Nat} : ∀ {f n v : Nat}, (nxtT l f n v).safe
  | 0, _, _ => safe_err (by omega)
  | _ + 1, _, _ => .bit _ fun _ => safe_ite (safe_err (by omega)) (safe_ite safe_ret safe_nxt)
theorem safe_plus {v n : Nat} : (plusT v n).safe := safe_bnd safe_num fun _ => safe_ret
theorem safe_len {s : Nat} : (lenT s).safe := safe_ite (safe_err (by omega)) (safe_ite safe_ret (safe_ite safe_ret safe_plus))
theorem safe_dis {s : Nat} : (disT s).safe := safe_ite (safe_err (by omega)) (safe_ite safe_ret safe_plus)
theorem safe_runT {most s : Nat} {d : List Nat} {out : List UInt8} : (runT most d out s).safe := by
  unfold runT
  exact safe_bnd safe_len fun _ => safe_bnd safe_nxt fun _ => safe_bnd safe_dis fun _ => safe_ite (safe_err (by omega)) (safe_ite (safe_err (by omega)) safe_ret)
theorem safe_sym {l d : List Nat} {most : Nat} : ∀ (f : Nat) (out : List UInt8), (symT l d most f out).safe := by
  intro f
  induction f with
  | zero => intro out; exact safe_err (by omega)
  | succ f ih =>
    intro out
    rw [symT]
    refine safe_bnd safe_nxt fun s => ?_
    by_cases h : s < 256
    · rw [if_pos h]
      by_cases h2 : most ≤ out.length
      · rw [if_pos h2]; exact safe_err (by omega)
      · rw [if_neg h2]; exact ih _
    · rw [if_neg h]
      by_cases h2 : s = 256
      · rw [if_pos h2]; exact safe_ret
      · rw [if_neg h2]; exact safe_bnd safe_runT fun o => ih o
theorem safe_byt : ∀ (n : Nat), (bytT n).safe := by
  intro n
  induction n with
  | zero => exact safe_ret
  | succ n ih => rw [bytT]; exact safe_bnd safe_num fun x => safe_bnd ih fun r => safe_ret
theorem safe_pos {α : Type} {k : Nat → BT α} (h : ∀ i, (k i).safe) : (BT.pos k).safe := .pos k h
theorem safe_sto {most : Nat} {out : List UInt8} : (stoT most out).safe := by
  unfold stoT
  refine safe_pos fun i => ?_
  refine safe_bnd safe_num fun _ => ?_
  refine safe_bnd safe_num fun n => ?_
  refine safe_bnd safe_num fun m => ?_
  by_cases h : n + m ≠ 65535
  · rw [if_pos h]; exact safe_err (by omega)
  · rw [if_neg h]
    refine safe_bnd (safe_byt n) fun bs => ?_
    by_cases h2 : most < out.length + n
    · rw [if_pos h2]; exact safe_err (by omega)
    · rw [if_neg h2]; exact safe_ret
theorem safe_tel : ∀ (n k : Nat) (l : List Nat), (telT n k l).safe := by
  intro n
  induction n with
  | zero => intro k l; exact safe_ret
  | succ n ih => intro k l; rw [telT]; exact safe_bnd safe_num fun x => ih _ _
theorem safe_ls {th : List Nat} {n : Nat} : ∀ (f : Nat) (l : List Nat), (lsT th n f l).safe := by
  intro f
  induction f with
  | zero => intro l; exact safe_err (by omega)
  | succ f ih =>
    intro l
    rw [lsT]
    by_cases h : n ≤ l.length
    · rw [if_pos h]; exact safe_ret
    · rw [if_neg h]
      refine safe_bnd safe_nxt fun s => ?_
      by_cases h2 : s = 16 ∧ l = []
      · rw [if_pos h2]; exact safe_err (by omega)
      · rw [if_neg h2]
        refine safe_bnd safe_plus fun t => ?_
        by_cases h3 : n < l.length + t
        · rw [if_pos h3]; exact safe_err (by omega)
        · rw [if_neg h3]; exact ih _
theorem safe_tlr {n : Nat} : (tlrT n).safe := by
  unfold tlrT
  refine safe_bnd (safe_tel _ _ _) fun th => ?_
  by_cases h2 : fulN th = true
  · rw [if_pos h2]; exact safe_ret
  · rw [if_neg h2]; exact safe_err (by omega)
theorem safe_tol : tolT.safe := by
  unfold tolT
  refine safe_bnd safe_num fun c => ?_
  by_cases h : 286 < c % 32 + 257 ∨ 30 < c / 32 % 32 + 1
  · rw [if_pos h]; exact safe_err (by omega)
  · rw [if_neg h]
    refine safe_bnd safe_tlr fun th => safe_bnd (safe_ls _ _) fun ls => ?_
    by_cases h3 : codN (ls.take (c % 32 + 257)) (ls.drop (c % 32 + 257)) = true
    · rw [if_pos h3]; exact safe_ret
    · rw [if_neg h3]; exact safe_err (by omega)
theorem safe_bod {most F h : Nat} {out : List UInt8} : (bodT most F out h).safe := by
  unfold bodT
  by_cases h0 : h = 0
  · rw [if_pos h0]; exact safe_sto
  · rw [if_neg h0]
    by_cases h1 : h = 1
    · rw [if_pos h1]; exact safe_sym _ _
    · rw [if_neg h1]
      by_cases h2 : h = 2
      · rw [if_pos h2]; exact safe_bnd safe_tol fun p => safe_sym _ _
      · rw [if_neg h2]; exact safe_err (by omega)
theorem safe_blk {most F : Nat} {out : List UInt8} : (blkT most F out).safe := by
  unfold blkT
  exact safe_bnd safe_num fun h => safe_bnd safe_bod fun o => safe_ret
theorem safe_inf {most F : Nat} : ∀ (f : Nat) (out : List UInt8), (infT most F f out).safe := by
  intro f
  induction f with
  | zero => intro out; exact safe_err (by omega)
  | succ f ih =>
    intro out
    rw [infT]
    refine safe_bnd safe_blk fun p => ?_
    by_cases h : p.1 = true
    · rw [if_pos h]; exact safe_ret
    · rw [if_neg h]; exact ih _
end Go.Proofs.YtokdmakljdhjiaaDoor.Aw
