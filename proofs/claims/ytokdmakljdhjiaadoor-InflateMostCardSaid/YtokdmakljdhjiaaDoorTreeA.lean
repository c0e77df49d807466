/- Contracts: huff.NewTree. -/
import Derived.Test.YtokdmakljdhjiaaDoorCodB
import Derived.Test.YtokdmakljdhjiaaDoorAwW
namespace Go.Proofs.YtokdmakljdhjiaaDoor.Aw
open Go
set_option linter.unusedSimpArgs false
set_option linter.unusedVariables false

/-- The symbols of a length among the first k, in their order. -/
def syms (l : List Nat) (k n : Nat) : List Nat := if n = 0 then [] else (List.range k).filter fun s => decide (l.getD s 0 = n)
theorem syms_succ {l : List Nat} {k n : Nat} (hn : n ≠ 0) : syms l (k + 1) n = if l.getD k 0 = n then syms l k n ++ [k] else syms l k n := by
  unfold syms
  rw [if_neg hn, if_neg hn, List.range_succ, List.filter_append]
  by_cases e : l.getD k 0 = n
  · rw [if_pos e, List.filter_cons, decide_eq_true e]; rfl
  · rw [if_neg e, List.filter_cons, decide_eq_false e]; simp
theorem syms_zero {l : List Nat} {k : Nat} : syms l k 0 = [] := rfl
theorem length_syms {l : List Nat} : ∀ {k n : Nat}, k ≤ l.length → (syms l k n).length = if n = 0 then 0 else (l.take k).count n
  | 0, n, _ => by unfold syms; split <;> simp
  | k + 1, n, h => by
    have ih := length_syms (l := l) (k := k) (n := n) (by omega)
    by_cases hn : n = 0
    · subst hn; rfl
    · rw [if_neg hn] at ih ⊢
      rw [syms_succ hn, count_snoc (by omega)]
      by_cases e : l.getD k 0 = n
      · rw [if_pos e, if_pos e.symm, List.length_append, ih]; rfl
      · rw [if_neg e, if_neg (fun h => e h.symm), ih]; rfl
theorem length_syms_le {l : List Nat} {k n : Nat} (h : k ≤ l.length) : (syms l k n).length ≤ l.length := by
  rw [length_syms h]
  split
  · omega
  · exact count_take_le

/-- The cells of a tree; where they lie while it is made. -/
def trR (l : List Nat) : List AV := (r16 (fr l)).map nA ++ (List.range 16).map (fun n => AV.sl (nl0 (syms l l.length n).length) none ((syms l l.length n).map nA)) ++ [.sc (.int .i64 (kraft l : Nat))]
def trC (l : List Nat) (k : Nat) (gs : Nat → Nat) : List AV := (r16 (fr l)).map nA ++ ownR 200 16 gs (fun n => (syms l k n).length) ++ [.sc (.int .i64 (kraft l : Nat))]
def trH (l : List Nat) (k : Nat) (gs : Nat → Nat) : Hp := fun i => if i = 18 then some (0, .row false (trC l k gs)) else if 200 ≤ i ∧ i < 216 then some (gs (i - 200), .row (nl0 (syms l k (i - 200)).length) ((syms l k (i - 200)).map nA)) else none
theorem trH_18 {l : List Nat} {k : Nat} {gs : Nat → Nat} : trH l k gs 18 = some (0, .row false (trC l k gs)) := by simp [trH]
theorem trH_sym {l : List Nat} {k x : Nat} {gs : Nat → Nat} (h : x < 16) : trH l k gs (200 + x) = some (gs x, .row (nl0 (syms l k x).length) ((syms l k x).map nA)) := by
  simp only [trH]
  rw [if_neg (by omega), if_pos (by omega), show 200 + x - 200 = x by omega]
theorem length_trC {l : List Nat} {k : Nat} {gs : Nat → Nat} : (trC l k gs).length = 33 := by simp [trC, length_r16, length_ownR]
theorem trC_get {l : List Nat} {k x : Nat} {gs : Nat → Nat} (h : x < 16) : (trC l k gs).getD (16 + x) .junk = .own (200 + x) (gs x) none 0 (syms l k x).length := by
  unfold trC
  simp only [List.getD]
  rw [List.getElem?_append_left (by simp [length_r16, length_ownR]; omega), List.getElem?_append_right (by simp [length_r16])]
  simp only [List.length_map, length_r16, show 16 + x - 16 = x by omega]
  rw [ownR_get h]; rfl

theorem trC_set {l : List Nat} {k x c : Nat} {gs : Nat → Nat} (hx : x < 16) (hx0 : x ≠ 0) (hk : l.getD k 0 = x) :
    (trC l k gs).take (16 + x) ++ AV.own (200 + x) c none 0 ((syms l k x).length + 1) :: (trC l k gs).drop (16 + x + 1) = trC l (k + 1) (fun j => if j = x then c else gs j) := by
  have h := List.set_eq_take_append_cons_drop (l := trC l k gs) (i := 16 + x) (a := AV.own (200 + x) c none 0 ((syms l k x).length + 1))
  rw [if_pos (by rw [length_trC]; omega)] at h
  rw [← h]
  unfold trC
  rw [List.set_append_left _ _ (by simp [length_r16, length_ownR]; omega), List.set_append_right _ _ (by simp [length_r16])]
  congr 2
  simp only [List.length_map, length_r16, show 16 + x - 16 = x by omega]
  apply List.ext_getElem?
  intro i
  rw [List.getElem?_set, length_ownR]
  by_cases hi : i < 16
  · rw [ownR_get hi, ownR_get hi]
    by_cases e : x = i
    · subst e
      rw [if_pos rfl, if_pos hi, if_pos rfl, syms_succ hx0, if_pos hk, List.length_append]; rfl
    · rw [if_neg e, if_neg (fun h => e h.symm)]
      by_cases i0 : i = 0
      · subst i0; rfl
      · rw [syms_succ i0, if_neg (by omega)]
  · rw [List.getElem?_eq_none (by rw [length_ownR]; omega), List.getElem?_eq_none (by rw [length_ownR]; omega), if_neg (by omega)]
theorem syms_same {l : List Nat} {k n : Nat} (hk : l.getD k 0 = 0) : syms l (k + 1) n = syms l k n := by
  by_cases h : n = 0
  · subst h; rfl
  · rw [syms_succ h, if_neg (by omega)]
theorem trH_same {l : List Nat} {k : Nat} {gs : Nat → Nat} (hk : l.getD k 0 = 0) : trH l (k + 1) gs = trH l k gs := by
  funext i
  simp only [trH, trC, syms_same hk]
theorem trH_next {l : List Nat} {k x c : Nat} {gs : Nat → Nat} (hx : x < 16) (hx0 : x ≠ 0) (hk : l.getD k 0 = x) {cs : List AV} (hcs : cs = trC l (k + 1) (fun j => if j = x then c else gs j)) :
    updH (updH (trH l k gs) (200 + x) (some (c, .row false ((syms l k x).map nA ++ [.sc (.int .i64 (k : Int))])))) 18 (some (0, .row false cs)) = trH l (k + 1) (fun j => if j = x then c else gs j) := by
  funext i
  simp only [updH, trH]
  by_cases e1 : i = 18
  · simp only [if_pos e1, hcs]
  · simp only [if_neg e1]
    by_cases e2 : i = 200 + x
    · rw [if_pos e2, if_pos (by omega), show i - 200 = x by omega, if_pos rfl, syms_succ hx0, if_pos hk]
      simp only [List.map_append, List.map_cons, List.map_nil, List.length_append, List.length_singleton, nl0_succ]
      rfl
    · rw [if_neg e2]
      by_cases e3 : 200 ≤ i ∧ i < 216
      · rw [if_pos e3, if_pos e3, if_neg (by omega)]
        by_cases i0 : i - 200 = 0
        · rw [i0]; rfl
        · rw [syms_succ i0, if_neg (by omega)]
      · rw [if_neg e3, if_neg e3]
theorem le_fun {st : ASt} {l : List (Nat × AV)} {H : Hp} {gc N : Nat} (hN : N = st.N) (hgc : st.gc ≤ gc) (hl : AllTm st.tm l) (hh : st.hp = H) : Le st ⟨look l, H, gc, N⟩ := by
  have := le_mk (st := st) (gc := gc) (h := []) hN hgc hl trivial
  exact ⟨this.tm, fun id => .inl (by rw [← hh]), hgc, hN⟩

theorem huff_NewTree_no [Tabs Tryd.prog] (nl : Bool) (l : List Int) (hl : l.length ≤ 1000) (hc : chk l ≠ 0) : Con Tryd.prog n_huff_NewTree [.sl nl none (l.map int)] (.tup [.sc (.pointer none), int (chk l : Nat)]) := by
  refine Con.of' mix Tryd.func38 rfl Tryd.ntmps38 e_huff_NewTree r_huff_NewTree (by simp) (by simp only [AV.free, AV.free.freeL, free_zA, Bool.and_self]) rfl ?_
  unfold s_huff_NewTree
  have d : decide (((chk l : Nat) : Int) = 0) = false := decide_eq_false (by omega)
  repeat (first | refine SWp.seq ?_ | refine SWp.block ?_ | refine SWp.condT rfl ?_ | refine SWp.condF rfl ?_ | refine LoopAt.next ?_ | refine And.intro (by omega) ?_ | ((first | refine SWp.reg ?_ | refine SWp.skip ?_ | refine SWp.exit ?_ | refine SWp.ret ?_ | refine (fun h => h : AOps _ _ _ _ → AOps _ _ _ _) ?_); simp (disch := omega) only [wP, wZ, undef, eq_self, UInt8.reduceToNat, Nat.reduceOr, Nat.reduceAnd, Nat.reduceXor, Nat.reduceDiv, if_pos, if_neg, aStore, frz, AV.flat, ↓reduceIte, ne_eq, reduceCtorEq, Int.reduceToNat, Nat.reduceEqDiff, Nat.reduceAdd, Nat.reduceSub, Nat.reduceMul, Int.reduceAdd, Int.reduceMul, Int.reduceSub, Int.reduceLT, Int.reduceLE, Int.reduceEq, Int.reduceNe, Nat.reduceLeDiff, Nat.reduceLT, Int.reduceNeg, Nat.reducePow, Nat.reduceMod, ByteArray.size]))
  refine goC_p _ (.inl ⟨by simp only [AV.free, AV.free.freeL, free_zA, Bool.and_self], huff_Check_c nl l hl⟩) ?_
  repeat (first | refine SWp.seq ?_ | refine SWp.block ?_ | refine SWp.condT rfl ?_ | refine SWp.condF rfl ?_ | refine LoopAt.next ?_ | refine And.intro (by omega) ?_ | ((first | refine SWp.reg ?_ | refine SWp.skip ?_ | refine SWp.exit ?_ | refine SWp.ret ?_ | refine (fun h => h : AOps _ _ _ _ → AOps _ _ _ _) ?_); simp (disch := omega) only [wP, wZ, undef, eq_self, UInt8.reduceToNat, Nat.reduceOr, Nat.reduceAnd, Nat.reduceXor, Nat.reduceDiv, if_pos, if_neg, aStore, frz, AV.flat, ↓reduceIte, ne_eq, reduceCtorEq, Int.reduceToNat, Nat.reduceEqDiff, Nat.reduceAdd, Nat.reduceSub, Nat.reduceMul, Int.reduceAdd, Int.reduceMul, Int.reduceSub, Int.reduceLT, Int.reduceLE, Int.reduceEq, Int.reduceNe, Nat.reduceLeDiff, Nat.reduceLT, Int.reduceNeg, Nat.reducePow, Nat.reduceMod, ByteArray.size, d]))

set_option maxRecDepth 100000 in
theorem huff_NewTree_c [Tabs Tryd.prog] (nl : Bool) (li : List Int) (hc : chk li = 0) (l : List Nat) (hli : l = li.map Int.toNat) : Con Tryd.prog n_huff_NewTree [.sl nl none (li.map int)] (.tup [.fp (.agg (trR l)) 0, int 0]) := by
  obtain ⟨hlen, ha, hK⟩ := chk_ok hc
  obtain ⟨hm, h15⟩ := okLens ha
  rw [← hli] at hm h15 hK
  have hl : l.length ≤ 320 := by rw [hli, List.length_map]; exact hlen
  have hchk := huff_Check_c nl li (by omega)
  rw [hm, hc] at hchk
  rw [hm]
  clear hm ha hc
  have hfT : AV.free.freeL (trR l) = true := by
    unfold trR
    rw [free_append, free_append, free_nA]
    have : AV.free.freeL ((List.range 16).map (fun n => AV.sl (nl0 (syms l l.length n).length) none ((syms l l.length n).map nA))) = true := freeL_iff.2 fun x hx => by
      obtain ⟨n, _, rfl⟩ := List.mem_map.1 hx
      simp only [AV.free, free_nA]
    rw [this]; rfl
  refine Con.of' mix Tryd.func38 rfl Tryd.ntmps38 e_huff_NewTree r_huff_NewTree (by simp) (by simp only [AV.free, AV.free.freeL, free_nA, Bool.and_self]) (by simp only [AV.free, AV.free.freeL, hfT, int, Bool.and_self]) ?_
  unfold s_huff_NewTree
  have hf : AV.free.freeL [.sl nl none (l.map nA)] = true := by simp only [AV.free, AV.free.freeL, free_nA, Bool.and_self]
  have hfr := huff_firstRows_c nl l hl h15
  have htk := huff_taken_c nl l (by omega) h15
  obtain ⟨F, hF⟩ : ∃ F, F = r16 (fr l) := ⟨_, rfl⟩
  have hFl : F.length = 16 := by rw [hF, length_r16]
  have hFm : (F.map nA).length = 16 := by rw [List.length_map, hFl]
  rw [← hF] at hfr
  obtain ⟨K, hKd⟩ : ∃ K, K = kraft l := ⟨_, rfl⟩
  rw [← hKd] at htk
  have ht1 : ∀ (x y : AV) (r : List AV), List.take 32 (F.map nA ++ (x :: y :: r)) = F.map nA ++ List.take 16 (x :: y :: r) := fun x y r => by rw [List.take_append, hFm, List.take_of_length_le (by omega)]
  have ht2 : ∀ (x y : AV) (r : List AV), List.drop 33 (F.map nA ++ (x :: y :: r)) = List.drop 17 (x :: y :: r) := fun x y r => by rw [List.drop_append, hFm, List.drop_of_length_le (by omega)]; rfl
  repeat (first | refine SWp.seq ?_ | refine SWp.block ?_ | refine SWp.condT rfl ?_ | refine SWp.condF rfl ?_ | refine LoopAt.next ?_ | refine And.intro (by omega) ?_ | ((first | refine SWp.reg ?_ | refine SWp.skip ?_ | refine SWp.exit ?_ | refine SWp.ret ?_ | refine (fun h => h : AOps _ _ _ _ → AOps _ _ _ _) ?_); simp (disch := omega) only [wP, wZ, undef, eq_self, UInt8.reduceToNat, Nat.reduceOr, Nat.reduceAnd, Nat.reduceXor, Nat.reduceDiv, if_pos, if_neg, aStore, frz, AV.flat, ↓reduceIte, ne_eq, reduceCtorEq, Int.reduceToNat, Nat.reduceEqDiff, Nat.reduceAdd, Nat.reduceSub, Nat.reduceMul, Int.reduceAdd, Int.reduceMul, Int.reduceSub, Int.reduceLT, Int.reduceLE, Int.reduceEq, Int.reduceNe, Nat.reduceLeDiff, Nat.reduceLT, Int.reduceNeg, Nat.reducePow, Nat.reduceMod, ByteArray.size]))
  refine goC_p _ (.inl ⟨hf, hchk⟩) ?_
  repeat (first | refine SWp.seq ?_ | refine SWp.block ?_ | refine SWp.condT rfl ?_ | refine SWp.condF rfl ?_ | refine LoopAt.next ?_ | refine And.intro (by omega) ?_ | ((first | refine SWp.reg ?_ | refine SWp.skip ?_ | refine SWp.exit ?_ | refine SWp.ret ?_ | refine (fun h => h : AOps _ _ _ _ → AOps _ _ _ _) ?_); simp (disch := omega) only [wP, wZ, undef, eq_self, UInt8.reduceToNat, Nat.reduceOr, Nat.reduceAnd, Nat.reduceXor, Nat.reduceDiv, if_pos, if_neg, aStore, frz, AV.flat, ↓reduceIte, ne_eq, reduceCtorEq, Int.reduceToNat, Nat.reduceEqDiff, Nat.reduceAdd, Nat.reduceSub, Nat.reduceMul, Int.reduceAdd, Int.reduceMul, Int.reduceSub, Int.reduceLT, Int.reduceLE, Int.reduceEq, Int.reduceNe, Nat.reduceLeDiff, Nat.reduceLT, Int.reduceNeg, Nat.reducePow, Nat.reduceMod, ByteArray.size]))
  refine goC_p _ (.inl ⟨hf, hfr⟩) ?_
  repeat (first | refine SWp.seq ?_ | refine SWp.block ?_ | refine SWp.condT rfl ?_ | refine SWp.condF rfl ?_ | refine LoopAt.next ?_ | refine And.intro (by omega) ?_ | ((first | refine SWp.reg ?_ | refine SWp.skip ?_ | refine SWp.exit ?_ | refine SWp.ret ?_ | refine (fun h => h : AOps _ _ _ _ → AOps _ _ _ _) ?_); simp (disch := omega) only [wP, wZ, undef, eq_self, UInt8.reduceToNat, Nat.reduceOr, Nat.reduceAnd, Nat.reduceXor, Nat.reduceDiv, if_pos, if_neg, aStore, frz, AV.flat, ↓reduceIte, ne_eq, reduceCtorEq, Int.reduceToNat, Nat.reduceEqDiff, Nat.reduceAdd, Nat.reduceSub, Nat.reduceMul, Int.reduceAdd, Int.reduceMul, Int.reduceSub, Int.reduceLT, Int.reduceLE, Int.reduceEq, Int.reduceNe, Nat.reduceLeDiff, Nat.reduceLT, Int.reduceNeg, Nat.reducePow, Nat.reduceMod, ByteArray.size]))
  refine goC_p _ (.inl ⟨hf, htk⟩) ?_
  repeat (first | refine SWp.seq ?_ | refine SWp.block ?_ | refine SWp.condT rfl ?_ | refine SWp.condF rfl ?_ | refine LoopAt.next ?_ | refine And.intro (by omega) ?_ | ((first | refine SWp.reg ?_ | refine SWp.skip ?_ | refine SWp.exit ?_ | refine SWp.ret ?_ | refine (fun h => h : AOps _ _ _ _ → AOps _ _ _ _) ?_); simp (disch := omega) only [wP, wZ, undef, eq_self, UInt8.reduceToNat, Nat.reduceOr, Nat.reduceAnd, Nat.reduceXor, Nat.reduceDiv, if_pos, if_neg, aStore, frz, AV.flat, ↓reduceIte, ne_eq, reduceCtorEq, Int.reduceToNat, Nat.reduceEqDiff, Nat.reduceAdd, Nat.reduceSub, Nat.reduceMul, Int.reduceAdd, Int.reduceMul, Int.reduceSub, Int.reduceLT, Int.reduceLE, Int.reduceEq, Int.reduceNe, Nat.reduceLeDiff, Nat.reduceLT, Int.reduceNeg, Nat.reducePow, Nat.reduceMod, ByteArray.size, hFl, ht1, ht2]))
  refine SWp.le (le_mk (N := 44) (gc := 1) (l := [(5, .op 18 0 0), (19, .sl nl none (l.map nA)), (20, int l.length), (21, int 0)]) (h := [(18, 0, .row false (F.map nA ++ List.replicate 16 (AV.sc (.slice none 0 0)) ++ [.sc (.int .i64 (K : Int))]))]) rfl ?_ ?_ ?_) ?_
  iterate 2 (case _ => simp (disch := omega) only [wP, wZ, undef, eq_self, UInt8.reduceToNat, Nat.reduceOr, Nat.reduceAnd, Nat.reduceXor, Nat.reduceDiv, if_pos, if_neg, aStore, frz, AV.flat, ↓reduceIte, ne_eq, reduceCtorEq, Int.reduceToNat, Nat.reduceEqDiff, Nat.reduceAdd, Nat.reduceSub, Nat.reduceMul, Int.reduceAdd, Int.reduceMul, Int.reduceSub, Int.reduceLT, Int.reduceLE, Int.reduceEq, Int.reduceNe, Nat.reduceLeDiff, Nat.reduceLT, Int.reduceNeg, Nat.reducePow, Nat.reduceMod, ByteArray.size])
  · simp (disch := omega) only [wP, wZ, undef, eq_self, UInt8.reduceToNat, Nat.reduceOr, Nat.reduceAnd, Nat.reduceXor, Nat.reduceDiv, if_pos, if_neg, aStore, frz, AV.flat, ↓reduceIte, ne_eq, reduceCtorEq, Int.reduceToNat, Nat.reduceEqDiff, Nat.reduceAdd, Nat.reduceSub, Nat.reduceMul, Int.reduceAdd, Int.reduceMul, Int.reduceSub, Int.reduceLT, Int.reduceLE, Int.reduceEq, Int.reduceNe, Nat.reduceLeDiff, Nat.reduceLT, Int.reduceNeg, Nat.reducePow, Nat.reduceMod, ByteArray.size]
    rfl
  refine SWp.adoptN 18 0 200 16 (nl := false) (pre := F.map nA) (post := [.sc (.int .i64 (K : Int))]) (by omega) (by simp (disch := omega) only [wP, wZ, undef, eq_self, UInt8.reduceToNat, Nat.reduceOr, Nat.reduceAnd, Nat.reduceXor, Nat.reduceDiv, if_pos, if_neg, aStore, frz, AV.flat, ↓reduceIte, ne_eq, reduceCtorEq, Int.reduceToNat, Nat.reduceEqDiff, Nat.reduceAdd, Nat.reduceSub, Nat.reduceMul, Int.reduceAdd, Int.reduceMul, Int.reduceSub, Int.reduceLT, Int.reduceLE, Int.reduceEq, Int.reduceNe, Nat.reduceLeDiff, Nat.reduceLT, Int.reduceNeg, Nat.reducePow, Nat.reduceMod, ByteArray.size]) ?_
  refine SWp.loop (α := Nat × (Nat → Nat) × Nat) (fun x => ⟨look [(5, .op 18 0 0), (19, .sl nl none (l.map nA)), (20, int l.length), (21, int x.1)], trH l x.1 x.2.1, x.2.2, 44⟩)
    (fun x => x.1 ≤ l.length) (fun x => l.length - x.1) (0, fun j => 1 + j, 17) (Nat.zero_le _) (le_fun rfl ?_ ?_ ?_) ?_
  · exact Nat.le_refl _
  · simp (disch := omega) only [wP, wZ, undef, eq_self, UInt8.reduceToNat, Nat.reduceOr, Nat.reduceAnd, Nat.reduceXor, Nat.reduceDiv, if_pos, if_neg, aStore, frz, AV.flat, ↓reduceIte, ne_eq, reduceCtorEq, Int.reduceToNat, Nat.reduceEqDiff, Nat.reduceAdd, Nat.reduceSub, Nat.reduceMul, Int.reduceAdd, Int.reduceMul, Int.reduceSub, Int.reduceLT, Int.reduceLE, Int.reduceEq, Int.reduceNe, Nat.reduceLeDiff, Nat.reduceLT, Int.reduceNeg, Nat.reducePow, Nat.reduceMod, ByteArray.size]
  · funext i
    simp only [adH, trH, trC, ← hF, ← hKd, mk_eq, lookH]
    by_cases e1 : i = 18
    · rw [if_pos e1, if_pos e1]
      simp [ownR, syms]
    · simp only [if_neg e1]
      by_cases e2 : 200 ≤ i ∧ i < 216
      · rw [if_pos (by omega), if_pos e2]
        simp [syms, nl0]
      · rw [if_neg (by omega), if_neg e2]
  rintro ⟨k, gs, c⟩ hk -
  simp only at hk
  repeat (first | refine SWp.seq ?_ | refine SWp.block ?_ | refine SWp.condT rfl ?_ | refine SWp.condF rfl ?_ | refine LoopAt.next ?_ | refine And.intro (by omega) ?_ | ((first | refine SWp.reg ?_ | refine SWp.skip ?_ | refine SWp.exit ?_ | refine SWp.ret ?_ | refine (fun h => h : AOps _ _ _ _ → AOps _ _ _ _) ?_); simp (disch := omega) only [wP, wZ, undef, eq_self, UInt8.reduceToNat, Nat.reduceOr, Nat.reduceAnd, Nat.reduceXor, Nat.reduceDiv, if_pos, if_neg, aStore, frz, AV.flat, ↓reduceIte, ne_eq, reduceCtorEq, Int.reduceToNat, Nat.reduceEqDiff, Nat.reduceAdd, Nat.reduceSub, Nat.reduceMul, Int.reduceAdd, Int.reduceMul, Int.reduceSub, Int.reduceLT, Int.reduceLE, Int.reduceEq, Int.reduceNe, Nat.reduceLeDiff, Nat.reduceLT, Int.reduceNeg, Nat.reducePow, Nat.reduceMod, ByteArray.size]))
  refine SWp.cond rfl (fun h => ?_) (fun h => ?_)
  · simp only [decide_eq_true_eq] at h
    have hkl : k < l.length := by omega
    have hx15 : l.getD k 0 ≤ 15 := by
      have : l.getD k 0 = l[k] := by simp [List.getD, List.getElem?_eq_getElem hkl]
      rw [this]; exact h15 _ (List.getElem_mem hkl)
    obtain ⟨x, hx⟩ : ∃ x, x = l.getD k 0 := ⟨_, rfl⟩
    rw [← hx] at hx15
    by_cases c0 : x = 0
    · subst c0
      repeat (first | refine SWp.seq ?_ | refine SWp.block ?_ | refine SWp.condT rfl ?_ | refine SWp.condF rfl ?_ | refine LoopAt.next ?_ | refine And.intro (by omega) ?_ | ((first | refine SWp.reg ?_ | refine SWp.skip ?_ | refine SWp.exit ?_ | refine SWp.ret ?_ | refine (fun h => h : AOps _ _ _ _ → AOps _ _ _ _) ?_); simp (disch := omega) only [wP, wZ, undef, eq_self, UInt8.reduceToNat, Nat.reduceOr, Nat.reduceAnd, Nat.reduceXor, Nat.reduceDiv, if_pos, if_neg, aStore, frz, AV.flat, ↓reduceIte, ne_eq, reduceCtorEq, Int.reduceToNat, Nat.reduceEqDiff, Nat.reduceAdd, Nat.reduceSub, Nat.reduceMul, Int.reduceAdd, Int.reduceMul, Int.reduceSub, Int.reduceLT, Int.reduceLE, Int.reduceEq, Int.reduceNe, Nat.reduceLeDiff, Nat.reduceLT, Int.reduceNeg, Nat.reducePow, Nat.reduceMod, ByteArray.size, iR, ← hx]))
      refine ⟨(k + 1, gs, c), by simp only; omega, by simp only; omega, le_fun rfl (Nat.le_refl _) ?_ ?_⟩
      · simp (disch := omega) only [wP, wZ, undef, eq_self, UInt8.reduceToNat, Nat.reduceOr, Nat.reduceAnd, Nat.reduceXor, Nat.reduceDiv, if_pos, if_neg, aStore, frz, AV.flat, ↓reduceIte, ne_eq, reduceCtorEq, Int.reduceToNat, Nat.reduceEqDiff, Nat.reduceAdd, Nat.reduceSub, Nat.reduceMul, Int.reduceAdd, Int.reduceMul, Int.reduceSub, Int.reduceLT, Int.reduceLE, Int.reduceEq, Int.reduceNe, Nat.reduceLeDiff, Nat.reduceLT, Int.reduceNeg, Nat.reducePow, Nat.reduceMod, ByteArray.size]
      · exact (trH_same hx.symm).symm
    · have d0 : decide ((0 : Int) < (x : Int)) = true := decide_eq_true (by omega)
      have hsl := length_syms_le (l := l) (k := k) (n := x) hk
      have hcs := trC_set (c := c) (gs := gs) (by omega) c0 hx.symm
      repeat (first | refine SWp.seq ?_ | refine SWp.block ?_ | refine SWp.condT rfl ?_ | refine SWp.condF rfl ?_ | refine LoopAt.next ?_ | refine And.intro (by omega) ?_ | ((first | refine SWp.reg ?_ | refine SWp.skip ?_ | refine SWp.exit ?_ | refine SWp.ret ?_ | refine (fun h => h : AOps _ _ _ _ → AOps _ _ _ _) ?_); simp (disch := omega) only [wP, wZ, undef, eq_self, UInt8.reduceToNat, Nat.reduceOr, Nat.reduceAnd, Nat.reduceXor, Nat.reduceDiv, if_pos, if_neg, aStore, frz, AV.flat, ↓reduceIte, ne_eq, reduceCtorEq, Int.reduceToNat, Nat.reduceEqDiff, Nat.reduceAdd, Nat.reduceSub, Nat.reduceMul, Int.reduceAdd, Int.reduceMul, Int.reduceSub, Int.reduceLT, Int.reduceLE, Int.reduceEq, Int.reduceNe, Nat.reduceLeDiff, Nat.reduceLT, Int.reduceNeg, Nat.reducePow, Nat.reduceMod, ByteArray.size, iR, ← hx, d0, trH_18, trH_sym, trC_get, length_trC, Nat.mul_one]))
      refine ⟨(k + 1, fun j => if j = x then c else gs j, c + 1), by simp only; omega, by simp only; omega, le_fun rfl (Nat.le_refl _) ?_ ?_⟩
      · simp (disch := omega) only [wP, wZ, undef, eq_self, UInt8.reduceToNat, Nat.reduceOr, Nat.reduceAnd, Nat.reduceXor, Nat.reduceDiv, if_pos, if_neg, aStore, frz, AV.flat, ↓reduceIte, ne_eq, reduceCtorEq, Int.reduceToNat, Nat.reduceEqDiff, Nat.reduceAdd, Nat.reduceSub, Nat.reduceMul, Int.reduceAdd, Int.reduceMul, Int.reduceSub, Int.reduceLT, Int.reduceLE, Int.reduceEq, Int.reduceNe, Nat.reduceLeDiff, Nat.reduceLT, Int.reduceNeg, Nat.reducePow, Nat.reduceMod, ByteArray.size]
      · exact trH_next (by omega) c0 hx.symm hcs
  · simp only [decide_eq_false_iff_not] at h
    obtain rfl : k = l.length := by omega
    refine SWp.le (st' := ⟨look [(5, .op 18 0 0)], trH l l.length gs, c, 44⟩) (le_fun rfl (Nat.le_refl _) ?_ rfl) ?_
    · simp (disch := omega) only [wP, wZ, undef, eq_self, UInt8.reduceToNat, Nat.reduceOr, Nat.reduceAnd, Nat.reduceXor, Nat.reduceDiv, if_pos, if_neg, aStore, frz, AV.flat, ↓reduceIte, ne_eq, reduceCtorEq, Int.reduceToNat, Nat.reduceEqDiff, Nat.reduceAdd, Nat.reduceSub, Nat.reduceMul, Int.reduceAdd, Int.reduceMul, Int.reduceSub, Int.reduceLT, Int.reduceLE, Int.reduceEq, Int.reduceNe, Nat.reduceLeDiff, Nat.reduceLT, Int.reduceNeg, Nat.reducePow, Nat.reduceMod, ByteArray.size]
    refine SWp.frzN 18 0 200 16 (nl := false) (pre := (r16 (fr l)).map nA) (post := [.sc (.int .i64 (kraft l : Nat))]) (gs := gs) (ls := fun n => nl0 (syms l l.length n).length) (xs := fun n => (syms l l.length n).map nA) (by omega) ?_ ?_ (fun _ _ => free_nA) free_nA rfl ?_ ?_
    · rw [trH_18]
      simp only [trC, ownR, mixR, Nat.not_lt_zero, if_false, List.length_map]
    · intro i hi
      exact trH_sym hi
    · intro t i hi
      by_cases e : t = 5
      · subst e
        show fzo _ _ _ _ (.op 18 0 0) = .op 18 0 0
        rw [fzo_op, if_neg (by omega)]
      · have : look [(5, AV.op 18 0 0)] t = .junk := by simp only [look]; rw [if_neg e]
        rw [this]; rfl
    have hm : (r16 (fr l)).map nA ++ mixR 200 16 16 gs (fun n => nl0 (syms l l.length n).length) (fun n => (syms l l.length n).map nA) ++ [.sc (.int .i64 (kraft l : Nat))] = trR l := by
      unfold trR
      have : mixR 200 16 16 gs (fun n => nl0 (syms l l.length n).length) (fun n => (syms l l.length n).map nA) = (List.range 16).map (fun n => AV.sl (nl0 (syms l l.length n).length) none ((syms l l.length n).map nA)) := List.map_congr_left fun i hi => by rw [if_pos (List.mem_range.1 hi)]
      rw [this]
    have hH : mixH 18 0 200 16 16 gs (fun n => nl0 (syms l l.length n).length) (fun n => (syms l l.length n).map nA) false ((r16 (fr l)).map nA) [.sc (.int .i64 (kraft l : Nat))] 18 = some (0, .row false (trR l)) := by
      unfold mixH; rw [if_pos rfl, hm]
    refine SWp.le (le_mk (N := 44) (gc := c) (l := [(5, .op 18 0 0)]) (h := [(18, 0, .row false (trR l))]) rfl (Nat.le_refl _) ?_ ?_) ?_
    iterate 2 (case _ => simp (disch := omega) only [wP, wZ, undef, eq_self, UInt8.reduceToNat, Nat.reduceOr, Nat.reduceAnd, Nat.reduceXor, Nat.reduceDiv, if_pos, if_neg, aStore, frz, AV.flat, ↓reduceIte, ne_eq, reduceCtorEq, Int.reduceToNat, Nat.reduceEqDiff, Nat.reduceAdd, Nat.reduceSub, Nat.reduceMul, Int.reduceAdd, Int.reduceMul, Int.reduceSub, Int.reduceLT, Int.reduceLE, Int.reduceEq, Int.reduceNe, Nat.reduceLeDiff, Nat.reduceLT, Int.reduceNeg, Nat.reducePow, Nat.reduceMod, ByteArray.size, hH])
    repeat (first | refine SWp.seq ?_ | refine SWp.block ?_ | refine SWp.condT rfl ?_ | refine SWp.condF rfl ?_ | refine LoopAt.next ?_ | refine And.intro (by omega) ?_ | ((first | refine SWp.reg ?_ | refine SWp.skip ?_ | refine SWp.exit ?_ | refine SWp.ret ?_ | refine (fun h => h : AOps _ _ _ _ → AOps _ _ _ _) ?_); simp (disch := omega) only [wP, wZ, undef, eq_self, UInt8.reduceToNat, Nat.reduceOr, Nat.reduceAnd, Nat.reduceXor, Nat.reduceDiv, if_pos, if_neg, aStore, frz, AV.flat, ↓reduceIte, ne_eq, reduceCtorEq, Int.reduceToNat, Nat.reduceEqDiff, Nat.reduceAdd, Nat.reduceSub, Nat.reduceMul, Int.reduceAdd, Int.reduceMul, Int.reduceSub, Int.reduceLT, Int.reduceLE, Int.reduceEq, Int.reduceNe, Nat.reduceLeDiff, Nat.reduceLT, Int.reduceNeg, Nat.reducePow, Nat.reduceMod, ByteArray.size, hfT]))
    all_goals trace_state
end Go.Proofs.YtokdmakljdhjiaaDoor.Aw
