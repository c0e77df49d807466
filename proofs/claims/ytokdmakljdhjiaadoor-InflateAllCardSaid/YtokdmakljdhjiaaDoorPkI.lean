/- Contracts: fewOrFull, codesOf, (*unpacker).teller. -/
import Derived.Test.YtokdmakljdhjiaaDoorPkH
import Derived.Test.YtokdmakljdhjiaaDoorPkG
namespace Go.Proofs.YtokdmakljdhjiaaDoor.Aw
open Go
set_option linter.unusedSimpArgs false
set_option linter.unusedVariables false

theorem sum_snoc {l : List Nat} {k : Nat} (h : k < l.length) : (l.take (k + 1)).sum = (l.take k).sum + l.getD k 0 := by
  rw [snocD (d := 0) h, List.sum_append]; simp
theorem sum_le15 : ∀ {l : List Nat}, (∀ x ∈ l, x ≤ 15) → l.sum ≤ 15 * l.length
  | [], _ => by simp
  | x :: l, h => by
    have := sum_le15 (l := l) fun y hy => h y (by simp [hy])
    have := h x (by simp)
    simp only [List.sum_cons, List.length_cons]; omega
theorem wt_half {n : Nat} : wt n ≤ 16384 * n := by
  unfold wt
  split
  · omega
  · rename_i h
    have h2 : 2 ^ 1 ≤ 2 ^ n := two_pow_le (by omega)
    have : 32768 / 2 ^ n ≤ 32768 / 2 := Nat.div_le_div_left (by simpa using h2) (by omega)
    omega
theorem kraft_sum {l : List Nat} : kraft l ≤ 16384 * l.sum := by
  induction l with
  | nil => simp [kraft]
  | cons x l ih => simp only [kraft, List.sum_cons]; have := wt_half (n := x); omega
theorem fewN_kraft {d : List Nat} (h : fewN d = true) : kraft d ≤ 32768 := by
  have := kraft_sum (l := d)
  simp only [fewN, fulN, Bool.or_eq_true, decide_eq_true_eq] at h
  omega

set_option maxRecDepth 100000 in
theorem inf_fewOrFull_c [Tabs Tryd.prog] (nl : Bool) (l : List Nat) (h15 : ∀ x ∈ l, x ≤ 15) (hl : l.length ≤ 1000) : Con Tryd.prog n_inflate_fewOrFull [.sl nl none (l.map nA)] (boo (fewN l)) := by
  refine Con.of' mix Tryd.func61 rfl Tryd.ntmps61 e_inflate_fewOrFull r_inflate_fewOrFull (by simp) (by simp only [AV.free, AV.free.freeL, free_nA, Bool.and_self]) rfl ?_
  unfold s_inflate_fewOrFull
  have hf := huff_Full_n nl l h15 hl
  repeat (first | refine wA ?_ | refine wB ?_ | refine wC rfl ?_ | refine wD rfl ?_ | refine wE ?_ | refine wF (by omega) ?_ | ((first | refine wG ?_ | refine wH ?_ | refine wI ?_ | refine wJ ?_ | refine wK ?_ | refine wL ?_); simp (disch := omega) only [wP, wZ, undef, seval, if_pos, if_neg, aStore, frz, AV.flat, ↓reduceIte, ne_eq, reduceCtorEq, ByteArray.size]))
  refine SWp.loop (α := Nat) (fun k => mk 22 0 [(0, .sl nl none (l.map nA)), (3, int ((l.take k).sum : Nat)), (6, .sl nl none (l.map nA)), (7, int l.length), (8, int k)] [])
    (fun k => k ≤ l.length) (fun k => l.length - k) 0 (Nat.zero_le _) (le_mk rfl ?_ ?_ ?_) ?_
  · exact Nat.le_refl _
  iterate 2 (case _ => simp (disch := omega) only [wP, wZ, undef, seval, if_pos, if_neg, aStore, frz, AV.flat, ↓reduceIte, ne_eq, reduceCtorEq, ByteArray.size, List.take_zero, List.sum_nil])
  rintro k hk -
  have hsl := sum_le15 (l := l.take k) fun x hx => h15 x (List.mem_of_mem_take hx)
  have htl : (l.take k).length ≤ 1000 := by rw [List.length_take]; omega
  repeat (first | refine wA ?_ | refine wB ?_ | refine wC rfl ?_ | refine wD rfl ?_ | refine wE ?_ | refine wF (by omega) ?_ | ((first | refine wG ?_ | refine wH ?_ | refine wI ?_ | refine wJ ?_ | refine wK ?_ | refine wL ?_); simp (disch := omega) only [wP, wZ, undef, seval, if_pos, if_neg, aStore, frz, AV.flat, ↓reduceIte, ne_eq, reduceCtorEq, ByteArray.size]))
  refine SWp.cond rfl (fun h => ?_) (fun h => ?_)
  · simp only [decide_eq_true_eq] at h
    have hkl : k < l.length := by omega
    have hs := sum_snoc hkl
    have hx15 : l.getD k 0 ≤ 15 := by
      have : l.getD k 0 = l[k] := by simp [List.getD, List.getElem?_eq_getElem hkl]
      rw [this]; exact h15 _ (List.getElem_mem hkl)
    obtain ⟨x, hx⟩ : ∃ x, x = l.getD k 0 := ⟨_, rfl⟩
    obtain ⟨y, hy⟩ : ∃ y, y = (l.take k).sum := ⟨_, rfl⟩
    rw [← hx] at hs hx15
    rw [← hy] at hs hsl
    repeat (first | refine wA ?_ | refine wB ?_ | refine wC rfl ?_ | refine wD rfl ?_ | refine wE ?_ | refine wF (by omega) ?_ | ((first | refine wG ?_ | refine wH ?_ | refine wI ?_ | refine wJ ?_ | refine wK ?_ | refine wL ?_); simp (disch := omega) only [wP, wZ, undef, seval, if_pos, if_neg, aStore, frz, AV.flat, ↓reduceIte, ne_eq, reduceCtorEq, ByteArray.size, iR, ← hx, ← hy]))
    refine At.of (k + 1) (by omega) (by omega) rfl rfl (Nat.le_refl _) ?_ ?_
    iterate 2 (case _ => simp (disch := omega) only [wP, wZ, undef, seval, if_pos, if_neg, aStore, frz, AV.flat, ↓reduceIte, ne_eq, reduceCtorEq, ByteArray.size, hs])
  · simp only [decide_eq_false_iff_not] at h
    obtain rfl : k = l.length := by omega
    rw [List.take_length] at hsl htl
    obtain ⟨y, hy⟩ : ∃ y, y = l.sum := ⟨_, rfl⟩
    have hfe : fewN l = (decide (y ≤ 1) || fulN l) := by rw [hy]; rfl
    rw [hfe]
    by_cases c : y ≤ 1
    · have d : decide ((y : Int) ≤ 1) = true := decide_eq_true (by omega)
      rw [decide_eq_true c, Bool.true_or]
      repeat (first | refine wA ?_ | refine wB ?_ | refine wC rfl ?_ | refine wD rfl ?_ | refine wE ?_ | refine wF (by omega) ?_ | ((first | refine wG ?_ | refine wH ?_ | refine wI ?_ | refine wJ ?_ | refine wK ?_ | refine wL ?_); simp (disch := omega) only [wP, wZ, undef, seval, if_pos, if_neg, aStore, frz, AV.flat, ↓reduceIte, ne_eq, reduceCtorEq, ByteArray.size, List.take_length, ← hy, d]))
    · have d : decide ((y : Int) ≤ 1) = false := decide_eq_false (by omega)
      rw [decide_eq_false c, Bool.false_or]
      repeat (first | refine wA ?_ | refine wB ?_ | refine wC rfl ?_ | refine wD rfl ?_ | refine wE ?_ | refine wF (by omega) ?_ | ((first | refine wG ?_ | refine wH ?_ | refine wI ?_ | refine wJ ?_ | refine wK ?_ | refine wL ?_); simp (disch := omega) only [wP, wZ, undef, seval, if_pos, if_neg, aStore, frz, AV.flat, ↓reduceIte, ne_eq, reduceCtorEq, ByteArray.size, List.take_length, ← hy, d]))
      refine goC_p _ (.inl ⟨by simp only [AV.free, AV.free.freeL, free_nA, Bool.and_self], hf⟩) ?_
      repeat (first | refine wA ?_ | refine wB ?_ | refine wC rfl ?_ | refine wD rfl ?_ | refine wE ?_ | refine wF (by omega) ?_ | ((first | refine wG ?_ | refine wH ?_ | refine wI ?_ | refine wJ ?_ | refine wK ?_ | refine wL ?_); simp (disch := omega) only [wP, wZ, undef, seval, if_pos, if_neg, aStore, frz, AV.flat, ↓reduceIte, ne_eq, reduceCtorEq, ByteArray.size]))

set_option maxRecDepth 100000 in
theorem inf_codesOf_h [Tabs Tryd.prog] (n1 n2 : Bool) (l d : List Nat) (hl15 : ∀ x ∈ l, x ≤ 15) (hd15 : ∀ x ∈ d, x ≤ 15) (hl : 257 ≤ l.length) (hl2 : l.length ≤ 320) (hd : d.length ≤ 320) :
    Con Tryd.prog n_inflate_codesOf [.sl n1 none (l.map nA), .sl n2 none (d.map nA)] (if codN l d = true then .tup [cds l d, int 0] else .tup [.sc (.pointer none), int 3]) := by
  have hfr : (if codN l d = true then AV.tup [cds l d, int 0] else .tup [.sc (.pointer none), int 3]).free = true := by
    by_cases c : codN l d = true
    · rw [if_pos c]; simp only [AV.free, AV.free.freeL, free_cds, int, Bool.and_self]
    · rw [if_neg c]; rfl
  refine Con.of' mix Tryd.func46 rfl Tryd.ntmps46 e_inflate_codesOf r_inflate_codesOf (by simp) (by simp only [AV.free, AV.free.freeL, free_nA, Bool.and_self]) hfr ?_
  clear hfr
  unfold s_inflate_codesOf
  have hf := huff_Full_n n1 l hl15 (by omega)
  have hw := inf_fewOrFull_c n2 d hd15 (by omega)
  have hfl : AV.free.freeL [.sl n1 none (l.map nA)] = true := by simp only [AV.free, AV.free.freeL, free_nA, Bool.and_self]
  have hfd : AV.free.freeL [.sl n2 none (d.map nA)] = true := by simp only [AV.free, AV.free.freeL, free_nA, Bool.and_self]
  obtain ⟨x, hx⟩ : ∃ x, x = l.getD 256 0 := ⟨_, rfl⟩
  have hco : codN l d = (decide (x ≠ 0) && fulN l && fewN d) := by rw [hx]; rfl
  rw [hco]
  by_cases c1 : x = 0
  · have d1 : decide ((x : Int) = 0) = true := decide_eq_true (by omega)
    rw [decide_eq_false (by simpa using c1), Bool.false_and, Bool.false_and, if_neg (by simp)]
    repeat (first | refine wA ?_ | refine wB ?_ | refine wC rfl ?_ | refine wD rfl ?_ | refine wE ?_ | refine wF (by omega) ?_ | ((first | refine wG ?_ | refine wH ?_ | refine wI ?_ | refine wJ ?_ | refine wK ?_ | refine wL ?_); simp (disch := omega) only [wP, wZ, undef, seval, if_pos, if_neg, aStore, frz, AV.flat, ↓reduceIte, ne_eq, reduceCtorEq, ByteArray.size, iR, ← hx, d1]))
  have d1 : decide ((x : Int) = 0) = false := decide_eq_false (by omega)
  rw [decide_eq_true (by simpa using c1), Bool.true_and]
  cases c2 : fulN l with
  | false =>
    rw [c2] at hf
    rw [Bool.false_and, if_neg (by simp)]
    repeat (first | refine wA ?_ | refine wB ?_ | refine wC rfl ?_ | refine wD rfl ?_ | refine wE ?_ | refine wF (by omega) ?_ | ((first | refine wG ?_ | refine wH ?_ | refine wI ?_ | refine wJ ?_ | refine wK ?_ | refine wL ?_); simp (disch := omega) only [wP, wZ, undef, seval, if_pos, if_neg, aStore, frz, AV.flat, ↓reduceIte, ne_eq, reduceCtorEq, ByteArray.size, iR, ← hx, d1]))
    refine goC_p _ (.inl ⟨hfl, hf⟩) ?_
    repeat (first | refine wA ?_ | refine wB ?_ | refine wC rfl ?_ | refine wD rfl ?_ | refine wE ?_ | refine wF (by omega) ?_ | ((first | refine wG ?_ | refine wH ?_ | refine wI ?_ | refine wJ ?_ | refine wK ?_ | refine wL ?_); simp (disch := omega) only [wP, wZ, undef, seval, if_pos, if_neg, aStore, frz, AV.flat, ↓reduceIte, ne_eq, reduceCtorEq, ByteArray.size, iR, ← hx, d1]))
  | true =>
    rw [c2] at hf
    rw [Bool.true_and]
    cases c3 : fewN d with
    | false =>
      rw [c3] at hw
      rw [if_neg (by simp)]
      repeat (first | refine wA ?_ | refine wB ?_ | refine wC rfl ?_ | refine wD rfl ?_ | refine wE ?_ | refine wF (by omega) ?_ | ((first | refine wG ?_ | refine wH ?_ | refine wI ?_ | refine wJ ?_ | refine wK ?_ | refine wL ?_); simp (disch := omega) only [wP, wZ, undef, seval, if_pos, if_neg, aStore, frz, AV.flat, ↓reduceIte, ne_eq, reduceCtorEq, ByteArray.size, iR, ← hx, d1]))
      refine goC_p _ (.inl ⟨hfl, hf⟩) ?_
      repeat (first | refine wA ?_ | refine wB ?_ | refine wC rfl ?_ | refine wD rfl ?_ | refine wE ?_ | refine wF (by omega) ?_ | ((first | refine wG ?_ | refine wH ?_ | refine wI ?_ | refine wJ ?_ | refine wK ?_ | refine wL ?_); simp (disch := omega) only [wP, wZ, undef, seval, if_pos, if_neg, aStore, frz, AV.flat, ↓reduceIte, ne_eq, reduceCtorEq, ByteArray.size, iR, ← hx, d1]))
      refine goC_p _ (.inl ⟨hfd, hw⟩) ?_
      repeat (first | refine wA ?_ | refine wB ?_ | refine wC rfl ?_ | refine wD rfl ?_ | refine wE ?_ | refine wF (by omega) ?_ | ((first | refine wG ?_ | refine wH ?_ | refine wI ?_ | refine wJ ?_ | refine wK ?_ | refine wL ?_); simp (disch := omega) only [wP, wZ, undef, seval, if_pos, if_neg, aStore, frz, AV.flat, ↓reduceIte, ne_eq, reduceCtorEq, ByteArray.size, iR, ← hx, d1]))
    | true =>
      rw [c3] at hw
      rw [if_pos rfl]
      have t1 := huff_NewTree_n n1 l hl15 hl2 (by simp only [fulN, decide_eq_true_eq] at c2; omega)
      have t2 := huff_NewTree_n n2 d hd15 hd (fewN_kraft c3)
      repeat (first | refine wA ?_ | refine wB ?_ | refine wC rfl ?_ | refine wD rfl ?_ | refine wE ?_ | refine wF (by omega) ?_ | ((first | refine wG ?_ | refine wH ?_ | refine wI ?_ | refine wJ ?_ | refine wK ?_ | refine wL ?_); simp (disch := omega) only [wP, wZ, undef, seval, if_pos, if_neg, aStore, frz, AV.flat, ↓reduceIte, ne_eq, reduceCtorEq, ByteArray.size, iR, ← hx, d1]))
      refine goC_p _ (.inl ⟨hfl, hf⟩) ?_
      repeat (first | refine wA ?_ | refine wB ?_ | refine wC rfl ?_ | refine wD rfl ?_ | refine wE ?_ | refine wF (by omega) ?_ | ((first | refine wG ?_ | refine wH ?_ | refine wI ?_ | refine wJ ?_ | refine wK ?_ | refine wL ?_); simp (disch := omega) only [wP, wZ, undef, seval, if_pos, if_neg, aStore, frz, AV.flat, ↓reduceIte, ne_eq, reduceCtorEq, ByteArray.size, iR, ← hx, d1]))
      refine goC_p _ (.inl ⟨hfd, hw⟩) ?_
      repeat (first | refine wA ?_ | refine wB ?_ | refine wC rfl ?_ | refine wD rfl ?_ | refine wE ?_ | refine wF (by omega) ?_ | ((first | refine wG ?_ | refine wH ?_ | refine wI ?_ | refine wJ ?_ | refine wK ?_ | refine wL ?_); simp (disch := omega) only [wP, wZ, undef, seval, if_pos, if_neg, aStore, frz, AV.flat, ↓reduceIte, ne_eq, reduceCtorEq, ByteArray.size, iR, ← hx, d1]))
      refine goC_p _ (.inl ⟨hfl, t1⟩) ?_
      repeat (first | refine wA ?_ | refine wB ?_ | refine wC rfl ?_ | refine wD rfl ?_ | refine wE ?_ | refine wF (by omega) ?_ | ((first | refine wG ?_ | refine wH ?_ | refine wI ?_ | refine wJ ?_ | refine wK ?_ | refine wL ?_); simp (disch := omega) only [wP, wZ, undef, seval, if_pos, if_neg, aStore, frz, AV.flat, ↓reduceIte, ne_eq, reduceCtorEq, ByteArray.size, iR, ← hx, d1]))
      refine goC_p _ (.inl ⟨hfd, t2⟩) ?_
      repeat (first | refine wA ?_ | refine wB ?_ | refine wC rfl ?_ | refine wD rfl ?_ | refine wE ?_ | refine wF (by omega) ?_ | ((first | refine wG ?_ | refine wH ?_ | refine wI ?_ | refine wJ ?_ | refine wK ?_ | refine wL ?_); simp (disch := omega) only [wP, wZ, undef, seval, if_pos, if_neg, aStore, frz, AV.flat, ↓reduceIte, ne_eq, reduceCtorEq, ByteArray.size, iR, cds, free_trR]))
      all_goals trace_state
end Go.Proofs.YtokdmakljdhjiaaDoor.Aw

namespace Go.Proofs.YtokdmakljdhjiaaDoor.Aw
open Go
set_option linter.unusedSimpArgs false
set_option linter.unusedVariables false

theorem tells_lt : ∀ k, k < 19 → tells.getD k 0 < 19 := by decide
theorem numAt3 {b : List UInt8} {i : Nat} : numAt b i 3 ≤ 7 := by have := numAt_lt (b := b) (i := i) (n := 3); omega
theorem telT_ok {b : List UInt8} : ∀ (n k i j : Nat) (l th : List Nat), l.length = 19 → (∀ x ∈ l, x ≤ 7) → i ≤ 8 * b.length → (telT n k l).run (bitsL b) i = .ok th j → th.length = 19 ∧ ∀ x ∈ th, x ≤ 7 := by
  intro n
  induction n with
  | zero => intro k i j l th h1 h2 hi h; simp only [telT, BT.run, BR.ok.injEq] at h; obtain ⟨rfl, rfl⟩ := h; exact ⟨h1, h2⟩
  | succ n ih =>
    intro k i j l th h1 h2 hi h
    simp only [telT, run_bnd] at h
    rw [run_num hi] at h
    split at h
    · simp only [BR.bnd] at h
      refine ih _ _ _ _ _ (by rw [List.length_set]; exact h1) ?_ (by omega) h
      intro x hx
      rcases List.mem_or_eq_of_mem_set hx with hx | rfl
      · exact h2 x hx
      · exact numAt3
    · cases h

def ansP {α : Type} (good : α → AV) : BR α → AV
  | .ok a _ => .tup [good a, int 0]
  | .no e => .tup [.sc (.pointer none), int (e : Int)]
def houP {α : Type} (t : Bool) (most : Nat) (nl : Bool) (b : List UInt8) (out : List UInt8) : BR α → List (Nat × Nat × AO)
  | .ok _ j => unO 0 t most nl b j out
  | .no _ => []
def treA (l : List Nat) : AV := .fp (.agg (trR l)) 0
theorem free_treA {l : List Nat} : (treA l).free = true := by simp only [treA, AV.free, free_trR]
theorem ren_treA {ρ : Nat → Nat → Nat × Nat} {l : List Nat} : ren ρ (treA l) = treA l := ren_free ρ _ free_treA

set_option maxHeartbeats 1000000 in
set_option maxRecDepth 100000 in
theorem inf_teller_h [Tabs Tryd.prog] (ht : Tabs.tab Tryd.prog 0 = some (tells.map nA)) (t : Bool) (most : Nat) (nl : Bool) (b : List UInt8) (hb : b.length ≤ 1000000) (i : Nat) (hi : i ≤ 8 * b.length) (out : List UInt8) (n : Nat) (hn : n ≤ 19) (r : BR (List Nat)) (hr : (tlrT n).run (bitsL b) i = r) :
    HCon Tryd.prog n_inflate_unpacker_teller [.op 1000 0 0, int (n : Int)] (unI t most nl b i out) (ansP treA r) (houP t most nl b out r) 1000 := by
  refine HCon.of' mix Tryd.func44 rfl Tryd.ntmps44 e_inflate_unpacker_teller r_inflate_unpacker_teller (by simp) (by simp [AV.gl, AV.gl.glL, int]) un_gl ?_
  unfold s_inflate_unpacker_teller
  have hG : ∀ st, ev Tryd.prog st (.global 0) = .fp (.agg (tells.map nA)) 0 := fun st => ev_global ht
  obtain ⟨TT, hTT⟩ : ∃ TT, TT = tells := ⟨_, rfl⟩
  have hTl : TT.length = 19 := by rw [hTT]; rfl
  have hTx : ∀ k, k < 19 → TT.getD k 0 < 19 := by rw [hTT]; exact tells_lt
  have hz : (List.replicate 19 [AV.sc (.int .i64 0)]).flatten = (List.replicate 19 0).map nA := zerosN
  rw [tlrT, run_bnd] at hr
  rw [← hTT] at hG
  obtain ⟨Z, hZ⟩ : ∃ Z : List Nat, Z = List.replicate 19 0 := ⟨_, rfl⟩
  have hZl : Z.length = 19 := by rw [hZ]; rfl
  have hZ7 : ∀ x ∈ Z, x ≤ 7 := by rw [hZ]; simp
  rw [← hZ] at hz hr
  have hok := telT_ok (b := b) n 0 i
  obtain ⟨r0, hr0⟩ : ∃ r0, (telT n 0 Z).run (bitsL b) i = r0 := ⟨_, rfl⟩
  rw [hr0] at hr
  repeat (first | refine wA ?_ | refine wB ?_ | refine wC rfl ?_ | refine wD rfl ?_ | refine wE ?_ | refine wF (by omega) ?_ | ((first | refine wG ?_ | refine wH ?_ | refine wI ?_ | refine wJ ?_ | refine wK ?_ | refine wL ?_); simp (disch := omega) only [wP, wZ, undef, UInt8.reduceToNat, Nat.reduceOr, Nat.reduceAnd, Nat.reduceXor, Nat.reduceDiv, if_pos, if_neg, aStore, frz, AV.flat, ↓reduceIte, ne_eq, reduceCtorEq, Int.reduceToNat, Nat.reduceEqDiff, Nat.reduceAdd, Nat.reduceSub, Nat.reduceMul, Int.reduceAdd, Int.reduceMul, Int.reduceSub, Int.reduceLT, Int.reduceLE, Int.reduceEq, Int.reduceNe, Nat.reduceLeDiff, Nat.reduceLT, Int.reduceNeg, Nat.reducePow, Nat.reduceMod, ByteArray.size, unI, hz]))
  refine SWp.loop (α := Nat × List Nat × Nat) (fun x => mk 39 (2 + 30 * x.1) [(0, .op 1000 0 0), (6, .own 10 1 none 0 19), (11, int (n : Int)), (12, int (x.1 : Int))] [(1000, 0, .row false (unR t most 0 out.length)), (1001, 0, .row false (rdR nl b x.2.2)), (1002, 0, .row (nl0 out.length) (out.map u8)), (10, 1, .row false (x.2.1.map nA))])
    (fun x => x.1 ≤ n ∧ (telT (n - x.1) x.1 x.2.1).run (bitsL b) x.2.2 = r0 ∧ x.2.1.length = 19 ∧ (∀ y ∈ x.2.1, y ≤ 7) ∧ x.2.2 ≤ 8 * b.length) (fun x => n - x.1) (0, Z, i) ⟨Nat.zero_le _, hr0, hZl, hZ7, hi⟩ (le_mk rfl ?_ ?_ ?_) ?_
  · exact Nat.le_refl _
  iterate 2 (case _ => simp (disch := omega) only [wP, wZ, undef, UInt8.reduceToNat, Nat.reduceOr, Nat.reduceAnd, Nat.reduceXor, Nat.reduceDiv, if_pos, if_neg, aStore, frz, AV.flat, ↓reduceIte, ne_eq, reduceCtorEq, Int.reduceToNat, Nat.reduceEqDiff, Nat.reduceAdd, Nat.reduceSub, Nat.reduceMul, Int.reduceAdd, Int.reduceMul, Int.reduceSub, Int.reduceLT, Int.reduceLE, Int.reduceEq, Int.reduceNe, Nat.reduceLeDiff, Nat.reduceLT, Int.reduceNeg, Nat.reducePow, Nat.reduceMod, ByteArray.size])
  rintro ⟨k, l, p⟩ ⟨hk, hx, hll, hl7, hp⟩ -
  simp only at hk hx hll hl7 hp
  repeat (first | refine wA ?_ | refine wB ?_ | refine wC rfl ?_ | refine wD rfl ?_ | refine wE ?_ | refine wF (by omega) ?_ | ((first | refine wG ?_ | refine wH ?_ | refine wI ?_ | refine wJ ?_ | refine wK ?_ | refine wL ?_); simp (disch := omega) only [wP, wZ, undef, UInt8.reduceToNat, Nat.reduceOr, Nat.reduceAnd, Nat.reduceXor, Nat.reduceDiv, if_pos, if_neg, aStore, frz, AV.flat, ↓reduceIte, ne_eq, reduceCtorEq, Int.reduceToNat, Nat.reduceEqDiff, Nat.reduceAdd, Nat.reduceSub, Nat.reduceMul, Int.reduceAdd, Int.reduceMul, Int.reduceSub, Int.reduceLT, Int.reduceLE, Int.reduceEq, Int.reduceNe, Nat.reduceLeDiff, Nat.reduceLT, Int.reduceNeg, Nat.reducePow, Nat.reduceMod, ByteArray.size]))
  refine SWp.cond rfl (fun h => ?_) (fun h => ?_)
  · simp only [decide_eq_true_eq] at h
    obtain ⟨f, hf⟩ : ∃ f, n - k = f + 1 := ⟨n - k - 1, by omega⟩
    rw [hf, telT, run_bnd, run_num hp] at hx
    by_cases c1 : p + 3 ≤ 8 * b.length
    · rw [if_pos c1] at hx
      simp only [BR.bnd] at hx
      have hT := huff_Take_h nl b hb p hp 3 (by omega) c1
      have hv7 := numAt3 (b := b) (i := p)
      obtain ⟨v, hv⟩ : ∃ v, v = numAt b p 3 := ⟨_, rfl⟩
      rw [← hv] at hT hx hv7
      have hw := hTx k (by omega)
      rw [← hTT] at hx
      obtain ⟨w, hwd⟩ : ∃ w, w = TT.getD k 0 := ⟨_, rfl⟩
      rw [← hwd] at hx hw
      have hsp := splice_nA (l := l) (k := w) (x := v) (by omega)
      repeat (first | refine wA ?_ | refine wB ?_ | refine wC rfl ?_ | refine wD rfl ?_ | refine wE ?_ | refine wF (by omega) ?_ | ((first | refine wG ?_ | refine wH ?_ | refine wI ?_ | refine wJ ?_ | refine wK ?_ | refine wL ?_); simp (disch := omega) only [wP, wZ, undef, UInt8.reduceToNat, Nat.reduceOr, Nat.reduceAnd, Nat.reduceXor, Nat.reduceDiv, if_pos, if_neg, aStore, frz, AV.flat, ↓reduceIte, ne_eq, reduceCtorEq, Int.reduceToNat, Nat.reduceEqDiff, Nat.reduceAdd, Nat.reduceSub, Nat.reduceMul, Int.reduceAdd, Int.reduceMul, Int.reduceSub, Int.reduceLT, Int.reduceLE, Int.reduceEq, Int.reduceNe, Nat.reduceLeDiff, Nat.reduceLT, Int.reduceNeg, Nat.reducePow, Nat.reduceMod, ByteArray.size, unR]))
      refine goC_h [(1001, 0)] 2000 hT (by simp) (by simp) ?_ ?_ ?_
      iterate 2 (case _ => simp (disch := omega) only [wP, wZ, undef, UInt8.reduceToNat, Nat.reduceOr, Nat.reduceAnd, Nat.reduceXor, Nat.reduceDiv, if_pos, if_neg, aStore, frz, AV.flat, ↓reduceIte, ne_eq, reduceCtorEq, Int.reduceToNat, Nat.reduceEqDiff, Nat.reduceAdd, Nat.reduceSub, Nat.reduceMul, Int.reduceAdd, Int.reduceMul, Int.reduceSub, Int.reduceLT, Int.reduceLE, Int.reduceEq, Int.reduceNe, Nat.reduceLeDiff, Nat.reduceLT, Int.reduceNeg, Nat.reducePow, Nat.reduceMod, ByteArray.size, rdR])
      repeat (first | refine wA ?_ | refine wB ?_ | refine wC rfl ?_ | refine wD rfl ?_ | refine wE ?_ | refine wF (by omega) ?_ | ((first | refine wG ?_ | refine wH ?_ | refine wI ?_ | refine wJ ?_ | refine wK ?_ | refine wL ?_); simp (disch := omega) only [wP, wZ, undef, UInt8.reduceToNat, Nat.reduceOr, Nat.reduceAnd, Nat.reduceXor, Nat.reduceDiv, if_pos, if_neg, aStore, frz, AV.flat, ↓reduceIte, ne_eq, reduceCtorEq, Int.reduceToNat, Nat.reduceEqDiff, Nat.reduceAdd, Nat.reduceSub, Nat.reduceMul, Int.reduceAdd, Int.reduceMul, Int.reduceSub, Int.reduceLT, Int.reduceLE, Int.reduceEq, Int.reduceNe, Nat.reduceLeDiff, Nat.reduceLT, Int.reduceNeg, Nat.reducePow, Nat.reduceMod, ByteArray.size, unR, rdR, hG, iR, ← hwd, hTl, hll]))
      refine At.of (k + 1, l.set w v, p + 3) ⟨by simp only; omega, by simp only; rw [show n - (k + 1) = f by omega]; exact hx, by simp only [List.length_set]; exact hll, ?_, c1⟩ (by simp only; omega) rfl rfl ?_ ?_ ?_
      · intro y hy
        rcases List.mem_or_eq_of_mem_set hy with hy | rfl
        · exact hl7 y hy
        · exact hv7
      · simp only; omega
      iterate 2 (case _ => simp (disch := omega) only [wP, wZ, undef, UInt8.reduceToNat, Nat.reduceOr, Nat.reduceAnd, Nat.reduceXor, Nat.reduceDiv, if_pos, if_neg, aStore, frz, AV.flat, ↓reduceIte, ne_eq, reduceCtorEq, Int.reduceToNat, Nat.reduceEqDiff, Nat.reduceAdd, Nat.reduceSub, Nat.reduceMul, Int.reduceAdd, Int.reduceMul, Int.reduceSub, Int.reduceLT, Int.reduceLE, Int.reduceEq, Int.reduceNe, Nat.reduceLeDiff, Nat.reduceLT, Int.reduceNeg, Nat.reducePow, Nat.reduceMod, ByteArray.size, unR, rdR, hsp])
    · rw [if_neg c1] at hx
      simp only [BR.bnd] at hx
      subst hx
      simp only [BR.bnd] at hr
      subst hr
      have hT := huff_Take_no nl b hb p hp 3 (decide_eq_false (by omega))
      repeat (first | refine wA ?_ | refine wB ?_ | refine wC rfl ?_ | refine wD rfl ?_ | refine wE ?_ | refine wF (by omega) ?_ | ((first | refine wG ?_ | refine wH ?_ | refine wI ?_ | refine wJ ?_ | refine wK ?_ | refine wL ?_); simp (disch := omega) only [wP, wZ, undef, UInt8.reduceToNat, Nat.reduceOr, Nat.reduceAnd, Nat.reduceXor, Nat.reduceDiv, if_pos, if_neg, aStore, frz, AV.flat, ↓reduceIte, ne_eq, reduceCtorEq, Int.reduceToNat, Nat.reduceEqDiff, Nat.reduceAdd, Nat.reduceSub, Nat.reduceMul, Int.reduceAdd, Int.reduceMul, Int.reduceSub, Int.reduceLT, Int.reduceLE, Int.reduceEq, Int.reduceNe, Nat.reduceLeDiff, Nat.reduceLT, Int.reduceNeg, Nat.reducePow, Nat.reduceMod, ByteArray.size, unR]))
      refine goC_h [(1001, 0)] 2000 hT (by simp) (by simp) ?_ ?_ ?_
      iterate 2 (case _ => simp (disch := omega) only [wP, wZ, undef, UInt8.reduceToNat, Nat.reduceOr, Nat.reduceAnd, Nat.reduceXor, Nat.reduceDiv, if_pos, if_neg, aStore, frz, AV.flat, ↓reduceIte, ne_eq, reduceCtorEq, Int.reduceToNat, Nat.reduceEqDiff, Nat.reduceAdd, Nat.reduceSub, Nat.reduceMul, Int.reduceAdd, Int.reduceMul, Int.reduceSub, Int.reduceLT, Int.reduceLE, Int.reduceEq, Int.reduceNe, Nat.reduceLeDiff, Nat.reduceLT, Int.reduceNeg, Nat.reducePow, Nat.reduceMod, ByteArray.size, rdR])
      repeat (first | refine wA ?_ | refine wB ?_ | refine wC rfl ?_ | refine wD rfl ?_ | refine wE ?_ | refine wF (by omega) ?_ | ((first | refine wG ?_ | refine wH ?_ | refine wI ?_ | refine wJ ?_ | refine wK ?_ | refine wL ?_); simp (disch := omega) only [wP, wZ, undef, UInt8.reduceToNat, Nat.reduceOr, Nat.reduceAnd, Nat.reduceXor, Nat.reduceDiv, if_pos, if_neg, aStore, frz, AV.flat, ↓reduceIte, ne_eq, reduceCtorEq, Int.reduceToNat, Nat.reduceEqDiff, Nat.reduceAdd, Nat.reduceSub, Nat.reduceMul, Int.reduceAdd, Int.reduceMul, Int.reduceSub, Int.reduceLT, Int.reduceLE, Int.reduceEq, Int.reduceNe, Nat.reduceLeDiff, Nat.reduceLT, Int.reduceNeg, Nat.reducePow, Nat.reduceMod, ByteArray.size, unR, rdR, ansP, houP]))
      omega
  · simp only [decide_eq_false_iff_not] at h
    obtain rfl : k = n := by omega
    rw [Nat.sub_self, telT] at hx
    simp only [BT.run] at hx
    subst hx
    simp only [BR.bnd] at hr
    have hf := huff_Full_n false l (fun x hx => by have := hl7 x hx; omega) (by omega)
    have hfr : AV.free.freeL [.sl false none (l.map nA)] = true := by simp only [AV.free, AV.free.freeL, free_nA, Bool.and_self]
    have htk : l.take 19 = l := List.take_of_length_le (by omega)
    by_cases c2 : fulN l = true
    · rw [if_pos c2] at hr
      simp only [BT.run] at hr
      subst hr
      rw [c2] at hf
      have t1 := huff_NewTree_n false l (fun x hx => by have := hl7 x hx; omega) (by omega) (by simp only [fulN, decide_eq_true_eq] at c2; omega)
      repeat (first | refine wA ?_ | refine wB ?_ | refine wC rfl ?_ | refine wD rfl ?_ | refine wE ?_ | refine wF (by omega) ?_ | ((first | refine wG ?_ | refine wH ?_ | refine wI ?_ | refine wJ ?_ | refine wK ?_ | refine wL ?_); simp (disch := omega) only [wP, wZ, undef, UInt8.reduceToNat, Nat.reduceOr, Nat.reduceAnd, Nat.reduceXor, Nat.reduceDiv, if_pos, if_neg, aStore, frz, AV.flat, ↓reduceIte, ne_eq, reduceCtorEq, Int.reduceToNat, Nat.reduceEqDiff, Nat.reduceAdd, Nat.reduceSub, Nat.reduceMul, Int.reduceAdd, Int.reduceMul, Int.reduceSub, Int.reduceLT, Int.reduceLE, Int.reduceEq, Int.reduceNe, Nat.reduceLeDiff, Nat.reduceLT, Int.reduceNeg, Nat.reducePow, Nat.reduceMod, ByteArray.size]))
      refine goC_p (boo true) (.inr ⟨rfl, ?_, ?_⟩) ?_
      · simp (disch := omega) only [wP, wZ, undef, UInt8.reduceToNat, Nat.reduceOr, Nat.reduceAnd, Nat.reduceXor, Nat.reduceDiv, if_pos, if_neg, aStore, frz, AV.flat, ↓reduceIte, ne_eq, reduceCtorEq, Int.reduceToNat, Nat.reduceEqDiff, Nat.reduceAdd, Nat.reduceSub, Nat.reduceMul, Int.reduceAdd, Int.reduceMul, Int.reduceSub, Int.reduceLT, Int.reduceLE, Int.reduceEq, Int.reduceNe, Nat.reduceLeDiff, Nat.reduceLT, Int.reduceNeg, Nat.reducePow, Nat.reduceMod, ByteArray.size, iR, hll, htk]
      · simp (disch := omega) only [wP, wZ, undef, UInt8.reduceToNat, Nat.reduceOr, Nat.reduceAnd, Nat.reduceXor, Nat.reduceDiv, if_pos, if_neg, aStore, frz, AV.flat, ↓reduceIte, ne_eq, reduceCtorEq, Int.reduceToNat, Nat.reduceEqDiff, Nat.reduceAdd, Nat.reduceSub, Nat.reduceMul, Int.reduceAdd, Int.reduceMul, Int.reduceSub, Int.reduceLT, Int.reduceLE, Int.reduceEq, Int.reduceNe, Nat.reduceLeDiff, Nat.reduceLT, Int.reduceNeg, Nat.reducePow, Nat.reduceMod, ByteArray.size, iR, hll, htk]
        exact hf
      repeat (first | refine wA ?_ | refine wB ?_ | refine wC rfl ?_ | refine wD rfl ?_ | refine wE ?_ | refine wF (by omega) ?_ | ((first | refine wG ?_ | refine wH ?_ | refine wI ?_ | refine wJ ?_ | refine wK ?_ | refine wL ?_); simp (disch := omega) only [wP, wZ, undef, UInt8.reduceToNat, Nat.reduceOr, Nat.reduceAnd, Nat.reduceXor, Nat.reduceDiv, if_pos, if_neg, aStore, frz, AV.flat, ↓reduceIte, ne_eq, reduceCtorEq, Int.reduceToNat, Nat.reduceEqDiff, Nat.reduceAdd, Nat.reduceSub, Nat.reduceMul, Int.reduceAdd, Int.reduceMul, Int.reduceSub, Int.reduceLT, Int.reduceLE, Int.reduceEq, Int.reduceNe, Nat.reduceLeDiff, Nat.reduceLT, Int.reduceNeg, Nat.reducePow, Nat.reduceMod, ByteArray.size]))
      refine goC_f 10 1 (nl := false) (cells := l.map nA) [.sl false none (l.map nA)] _ (by simp (disch := omega) only [wP, wZ, undef, UInt8.reduceToNat, Nat.reduceOr, Nat.reduceAnd, Nat.reduceXor, Nat.reduceDiv, if_pos, if_neg, aStore, frz, AV.flat, ↓reduceIte, ne_eq, reduceCtorEq, Int.reduceToNat, Nat.reduceEqDiff, Nat.reduceAdd, Nat.reduceSub, Nat.reduceMul, Int.reduceAdd, Int.reduceMul, Int.reduceSub, Int.reduceLT, Int.reduceLE, Int.reduceEq, Int.reduceNe, Nat.reduceLeDiff, Nat.reduceLT, Int.reduceNeg, Nat.reducePow, Nat.reduceMod, ByteArray.size]) (by simp (disch := omega) only [wP, wZ, undef, UInt8.reduceToNat, Nat.reduceOr, Nat.reduceAnd, Nat.reduceXor, Nat.reduceDiv, if_pos, if_neg, aStore, frz, AV.flat, ↓reduceIte, ne_eq, reduceCtorEq, Int.reduceToNat, Nat.reduceEqDiff, Nat.reduceAdd, Nat.reduceSub, Nat.reduceMul, Int.reduceAdd, Int.reduceMul, Int.reduceSub, Int.reduceLT, Int.reduceLE, Int.reduceEq, Int.reduceNe, Nat.reduceLeDiff, Nat.reduceLT, Int.reduceNeg, Nat.reducePow, Nat.reduceMod, ByteArray.size, free_nA]) ?_ hfr t1 ?_
      · simp (disch := omega) only [wP, wZ, undef, UInt8.reduceToNat, Nat.reduceOr, Nat.reduceAnd, Nat.reduceXor, Nat.reduceDiv, if_pos, if_neg, aStore, frz, AV.flat, ↓reduceIte, ne_eq, reduceCtorEq, Int.reduceToNat, Nat.reduceEqDiff, Nat.reduceAdd, Nat.reduceSub, Nat.reduceMul, Int.reduceAdd, Int.reduceMul, Int.reduceSub, Int.reduceLT, Int.reduceLE, Int.reduceEq, Int.reduceNe, Nat.reduceLeDiff, Nat.reduceLT, Int.reduceNeg, Nat.reducePow, Nat.reduceMod, ByteArray.size, fR, iR, hll, htk]
      repeat (first | refine wA ?_ | refine wB ?_ | refine wC rfl ?_ | refine wD rfl ?_ | refine wE ?_ | refine wF (by omega) ?_ | ((first | refine wG ?_ | refine wH ?_ | refine wI ?_ | refine wJ ?_ | refine wK ?_ | refine wL ?_); simp (disch := omega) only [wP, wZ, undef, UInt8.reduceToNat, Nat.reduceOr, Nat.reduceAnd, Nat.reduceXor, Nat.reduceDiv, if_pos, if_neg, aStore, frz, AV.flat, ↓reduceIte, ne_eq, reduceCtorEq, Int.reduceToNat, Nat.reduceEqDiff, Nat.reduceAdd, Nat.reduceSub, Nat.reduceMul, Int.reduceAdd, Int.reduceMul, Int.reduceSub, Int.reduceLT, Int.reduceLE, Int.reduceEq, Int.reduceNe, Nat.reduceLeDiff, Nat.reduceLT, Int.reduceNeg, Nat.reducePow, Nat.reduceMod, ByteArray.size, ansP, houP, unO, treA, unR, rdR]))
      omega
    · rw [if_neg c2] at hr
      simp only [BT.run] at hr
      subst hr
      rw [Bool.not_eq_true] at c2
      rw [c2] at hf
      repeat (first | refine wA ?_ | refine wB ?_ | refine wC rfl ?_ | refine wD rfl ?_ | refine wE ?_ | refine wF (by omega) ?_ | ((first | refine wG ?_ | refine wH ?_ | refine wI ?_ | refine wJ ?_ | refine wK ?_ | refine wL ?_); simp (disch := omega) only [wP, wZ, undef, UInt8.reduceToNat, Nat.reduceOr, Nat.reduceAnd, Nat.reduceXor, Nat.reduceDiv, if_pos, if_neg, aStore, frz, AV.flat, ↓reduceIte, ne_eq, reduceCtorEq, Int.reduceToNat, Nat.reduceEqDiff, Nat.reduceAdd, Nat.reduceSub, Nat.reduceMul, Int.reduceAdd, Int.reduceMul, Int.reduceSub, Int.reduceLT, Int.reduceLE, Int.reduceEq, Int.reduceNe, Nat.reduceLeDiff, Nat.reduceLT, Int.reduceNeg, Nat.reducePow, Nat.reduceMod, ByteArray.size]))
      refine goC_p (boo false) (.inr ⟨rfl, ?_, ?_⟩) ?_
      · simp (disch := omega) only [wP, wZ, undef, UInt8.reduceToNat, Nat.reduceOr, Nat.reduceAnd, Nat.reduceXor, Nat.reduceDiv, if_pos, if_neg, aStore, frz, AV.flat, ↓reduceIte, ne_eq, reduceCtorEq, Int.reduceToNat, Nat.reduceEqDiff, Nat.reduceAdd, Nat.reduceSub, Nat.reduceMul, Int.reduceAdd, Int.reduceMul, Int.reduceSub, Int.reduceLT, Int.reduceLE, Int.reduceEq, Int.reduceNe, Nat.reduceLeDiff, Nat.reduceLT, Int.reduceNeg, Nat.reducePow, Nat.reduceMod, ByteArray.size, iR, hll, htk]
      · simp (disch := omega) only [wP, wZ, undef, UInt8.reduceToNat, Nat.reduceOr, Nat.reduceAnd, Nat.reduceXor, Nat.reduceDiv, if_pos, if_neg, aStore, frz, AV.flat, ↓reduceIte, ne_eq, reduceCtorEq, Int.reduceToNat, Nat.reduceEqDiff, Nat.reduceAdd, Nat.reduceSub, Nat.reduceMul, Int.reduceAdd, Int.reduceMul, Int.reduceSub, Int.reduceLT, Int.reduceLE, Int.reduceEq, Int.reduceNe, Nat.reduceLeDiff, Nat.reduceLT, Int.reduceNeg, Nat.reducePow, Nat.reduceMod, ByteArray.size, iR, hll, htk]
        exact hf
      repeat (first | refine wA ?_ | refine wB ?_ | refine wC rfl ?_ | refine wD rfl ?_ | refine wE ?_ | refine wF (by omega) ?_ | ((first | refine wG ?_ | refine wH ?_ | refine wI ?_ | refine wJ ?_ | refine wK ?_ | refine wL ?_); simp (disch := omega) only [wP, wZ, undef, UInt8.reduceToNat, Nat.reduceOr, Nat.reduceAnd, Nat.reduceXor, Nat.reduceDiv, if_pos, if_neg, aStore, frz, AV.flat, ↓reduceIte, ne_eq, reduceCtorEq, Int.reduceToNat, Nat.reduceEqDiff, Nat.reduceAdd, Nat.reduceSub, Nat.reduceMul, Int.reduceAdd, Int.reduceMul, Int.reduceSub, Int.reduceLT, Int.reduceLE, Int.reduceEq, Int.reduceNe, Nat.reduceLeDiff, Nat.reduceLT, Int.reduceNeg, Nat.reducePow, Nat.reduceMod, ByteArray.size, ansP, houP]))
      omega
end Go.Proofs.YtokdmakljdhjiaaDoor.Aw
