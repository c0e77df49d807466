/- Contracts: (*state).symbol of drayageref04. -/
import Derived.Test.YtokdmakljdhjiaaDoorPkD
import Derived.Test.YtokdmakljdhjiaaDoorInfC
import Derived.Test.YtokdmakljdhjiaaDoorPkE
namespace Go.Proofs.YtokdmakljdhjiaaDoor.Aw
open Go
set_option linter.unusedSimpArgs false
set_option linter.unusedVariables false

theorem nxt_take {l : List Nat} {B : List Nat} {m : Nat} : ∀ (f n v : Nat), n + f ≤ m → nxt l (B.take m) f n v = nxt l B f n v
  | 0, _, _, _ => rfl
  | f + 1, n, v, h => by
    have hg : (B.take m).getD n 0 = B.getD n 0 := by simp only [List.getD]; rw [List.getElem?_take, if_pos (by omega)]
    rw [nxt, nxt, hg, nxt_take f (n + 1) _ (by omega), List.length_take]
    by_cases c : B.length ≤ n
    · rw [if_pos c, if_pos (by omega)]
    · rw [if_neg c, if_neg (by omega)]
theorem nxt_len {l B : List Nat} : ∀ (f n v : Nat), (nxt l B f n v).2.2 = 0 → l.getD (nxt l B f n v).1 0 = (nxt l B f n v).2.1
  | 0, n, v, h => by simp [nxt] at h
  | f + 1, n, v, h => by
    rw [nxt] at h ⊢
    split
    · rename_i c; rw [if_pos c] at h; simp at h
    · rename_i c
      rw [if_neg c] at h
      split
      · rename_i c; rw [if_pos c] at h; simp at h
      · rename_i c
        rw [if_neg c] at h
        split
        · rename_i c; exact (in_code (by omega) c).2.1
        · rename_i c
          rw [if_neg c] at h
          exact nxt_len f (n + 1) _ h

/-- A code of the document. -/
def cdA (nl em : Bool) (l : List Nat) : AV := .agg [.sl nl none (l.map nA), .sl em none ((codesL l).map nA)]
theorem free_cdA {nl em : Bool} {l : List Nat} : (cdA nl em l).free = true := by simp only [cdA, AV.free, AV.free.freeL, free_nA, Bool.and_self]
/-- The next symbol of the document's state. -/
def syS (l B : List Nat) (i e : Nat) : Nat × Nat × Nat := if e ≠ 0 then (0, i, e) else if (nxt l (B.drop i) 15 0 0).2.2 = 0 then ((nxt l (B.drop i) 15 0 0).1, i + (nxt l (B.drop i) 15 0 0).2.1, 0) else (0, i, (nxt l (B.drop i) 15 0 0).2.2)

set_option maxHeartbeats 1000000 in
set_option maxRecDepth 100000 in
theorem rf_symbol_h [Tabs Tryd.prog] (nb : Bool) (B : List Nat) (hBl : B.length ≤ 100000) (hB : ∀ x ∈ B, x < 2) (most i e : Nat) (hi : i ≤ B.length) (out : List UInt8) (nl em : Bool) (l : List Nat) (hl : l.length ≤ 320) (h15 : ∀ x ∈ l, x ≤ 15) (hK : kraft l ≤ 32768) :
    HCon Tryd.prog n_drayageref04_state_symbol [.op 1000 0 0, cdA nl em l] (stI nb B most i e out) (int ((syS l B i e).1 : Int)) (stO 0 nb B most (syS l B i e).2.1 (syS l B i e).2.2 out) 4 := by
  refine HCon.of' mix Tryd.func28 rfl Tryd.ntmps28 e_drayageref04_state_symbol r_drayageref04_state_symbol (by simp) (by simp only [AV.gl.glL, AV.gl, and_true]; exact ⟨by omega, gl_of_free 1 _ free_cdA⟩) st_gl ?_
  unfold s_drayageref04_state_symbol
  by_cases c : e = 0
  · subst c
    obtain ⟨E, hE⟩ : ∃ E, E = min (i + 15) B.length := ⟨_, rfl⟩
    have hEl : E ≤ B.length := by omega
    have hiE : i ≤ E := by omega
    have hdt : (B.take E).drop i = (B.drop i).take 15 := by
      rw [List.drop_take]
      by_cases q : i + 15 ≤ B.length
      · congr 1; omega
      · rw [List.take_of_length_le (by rw [List.length_drop]; omega), List.take_of_length_le (by rw [List.length_drop]; omega)]
    have hN := ref_Next_c l hl h15 hK nl em nb ((B.drop i).take 15) (by rw [List.length_take]; omega) (fun x hx => hB x (List.mem_of_mem_drop (List.mem_of_mem_take hx))) _ rfl
    rw [nxt_take 15 0 0 (by omega)] at hN
    have hlen := nxt_len (l := l) (B := B.drop i) 15 0 0
    have hsy := nxt_sym (l := l) (B := B.drop i) 15 0 0
    have hfc := nxt_facts (l := l) (B := B.drop i) 15 0 0 (Nat.zero_le _)
    have hS : syS l B i 0 = if (nxt l (B.drop i) 15 0 0).2.2 = 0 then ((nxt l (B.drop i) 15 0 0).1, i + (nxt l (B.drop i) 15 0 0).2.1, 0) else (0, i, (nxt l (B.drop i) 15 0 0).2.2) := by rw [syS, if_neg (by simp)]
    obtain ⟨⟨sy, m, e⟩, hr⟩ : ∃ r, r = nxt l (B.drop i) 15 0 0 := ⟨_, rfl⟩
    rw [← hr] at hN hlen hsy hfc hS
    simp only at hlen hsy hfc hS
    rw [List.length_drop] at hfc
    rw [hS]
    obtain ⟨X, hX⟩ : ∃ X, X = restA nb ((B.drop i).take 15) (sy, m, e) := ⟨_, rfl⟩
    have hXf : X.free = true := by rw [hX]; unfold restA; split <;> simp only [AV.free, free_nA]
    have hXc : cellsA X = some [X] := by rw [hX]; unfold restA; split <;> rfl
    rw [← hX] at hN
    clear hr hS
    have hfr : AV.free.freeL [.sl nl none (l.map nA), .sl em none ((codesL l).map nA), .sl nb none (((B.drop i).take 15).map nA)] = true := by simp only [AV.free, AV.free.freeL, free_nA, Bool.and_self]
    by_cases q : (B.length : Int) < (i : Int) + 15
    · have d := decide_eq_true q
      have hEB : E = B.length := by omega
      have hdt2 : (B.drop i).take 15 = B.drop i := List.take_of_length_le (by rw [List.length_drop]; omega)
      rw [hdt2] at hN hfr
      by_cases c2 : e = 0
      · subst c2
        have hsl := hsy rfl
        have hml := hlen rfl
        rw [if_pos rfl]
        repeat (first | refine wA ?_ | refine wB ?_ | refine wC rfl ?_ | refine wD rfl ?_ | refine wE ?_ | refine wF (by omega) ?_ | ((first | refine wG ?_ | refine wH ?_ | refine wI ?_ | refine wJ ?_ | refine wK ?_ | refine wL ?_); simp (disch := omega) only [wP, wZ, undef, seval, if_pos, if_neg, aStore, frz, AV.flat, ↓reduceIte, ne_eq, reduceCtorEq, ByteArray.size, stI, stR, cdA, d, iR, List.take_length]))
        refine goC_p _ (.inl ⟨hfr, hN⟩) ?_
        repeat (first | refine wA ?_ | refine wB ?_ | refine wC rfl ?_ | refine wD rfl ?_ | refine wE ?_ | refine wF (by omega) ?_ | ((first | refine wG ?_ | refine wH ?_ | refine wI ?_ | refine wJ ?_ | refine wK ?_ | refine wL ?_); simp (disch := omega) only [wP, wZ, undef, seval, if_pos, if_neg, aStore, frz, AV.flat, ↓reduceIte, ne_eq, reduceCtorEq, ByteArray.size, stO, stR, iR, hXc, hml]))
      · have d2 : decide ((e : Int) = 0) = false := decide_eq_false (by omega)
        rw [if_neg c2]
        repeat (first | refine wA ?_ | refine wB ?_ | refine wC rfl ?_ | refine wD rfl ?_ | refine wE ?_ | refine wF (by omega) ?_ | ((first | refine wG ?_ | refine wH ?_ | refine wI ?_ | refine wJ ?_ | refine wK ?_ | refine wL ?_); simp (disch := omega) only [wP, wZ, undef, seval, if_pos, if_neg, aStore, frz, AV.flat, ↓reduceIte, ne_eq, reduceCtorEq, ByteArray.size, stI, stR, cdA, d, iR, List.take_length]))
        refine goC_p _ (.inl ⟨hfr, hN⟩) ?_
        repeat (first | refine wA ?_ | refine wB ?_ | refine wC rfl ?_ | refine wD rfl ?_ | refine wE ?_ | refine wF (by omega) ?_ | ((first | refine wG ?_ | refine wH ?_ | refine wI ?_ | refine wJ ?_ | refine wK ?_ | refine wL ?_); simp (disch := omega) only [wP, wZ, undef, seval, if_pos, if_neg, aStore, frz, AV.flat, ↓reduceIte, ne_eq, reduceCtorEq, ByteArray.size, stO, stR, iR, hXc, d2]))
    · have d := decide_eq_false q
      have hEB : E = i + 15 := by omega
      have eE : (i : Int) + 15 = (E : Int) := by omega
      by_cases c2 : e = 0
      · subst c2
        have hsl := hsy rfl
        have hml := hlen rfl
        rw [if_pos rfl]
        have d' : decide ((B.length : Int) < (E : Int)) = false := decide_eq_false (by omega)
        repeat (first | refine wA ?_ | refine wB ?_ | refine wC rfl ?_ | refine wD rfl ?_ | refine wE ?_ | refine wF (by omega) ?_ | ((first | refine wG ?_ | refine wH ?_ | refine wI ?_ | refine wJ ?_ | refine wK ?_ | refine wL ?_); simp (disch := omega) only [wP, wZ, undef, seval, if_pos, if_neg, aStore, frz, AV.flat, ↓reduceIte, ne_eq, reduceCtorEq, ByteArray.size, stI, stR, cdA, eE, d', iR, hdt]))
        refine goC_p _ (.inl ⟨hfr, hN⟩) ?_
        repeat (first | refine wA ?_ | refine wB ?_ | refine wC rfl ?_ | refine wD rfl ?_ | refine wE ?_ | refine wF (by omega) ?_ | ((first | refine wG ?_ | refine wH ?_ | refine wI ?_ | refine wJ ?_ | refine wK ?_ | refine wL ?_); simp (disch := omega) only [wP, wZ, undef, seval, if_pos, if_neg, aStore, frz, AV.flat, ↓reduceIte, ne_eq, reduceCtorEq, ByteArray.size, stO, stR, iR, hXc, hml]))
      · have d2 : decide ((e : Int) = 0) = false := decide_eq_false (by omega)
        rw [if_neg c2]
        have d' : decide ((B.length : Int) < (E : Int)) = false := decide_eq_false (by omega)
        repeat (first | refine wA ?_ | refine wB ?_ | refine wC rfl ?_ | refine wD rfl ?_ | refine wE ?_ | refine wF (by omega) ?_ | ((first | refine wG ?_ | refine wH ?_ | refine wI ?_ | refine wJ ?_ | refine wK ?_ | refine wL ?_); simp (disch := omega) only [wP, wZ, undef, seval, if_pos, if_neg, aStore, frz, AV.flat, ↓reduceIte, ne_eq, reduceCtorEq, ByteArray.size, stI, stR, cdA, eE, d', iR, hdt]))
        refine goC_p _ (.inl ⟨hfr, hN⟩) ?_
        repeat (first | refine wA ?_ | refine wB ?_ | refine wC rfl ?_ | refine wD rfl ?_ | refine wE ?_ | refine wF (by omega) ?_ | ((first | refine wG ?_ | refine wH ?_ | refine wI ?_ | refine wJ ?_ | refine wK ?_ | refine wL ?_); simp (disch := omega) only [wP, wZ, undef, seval, if_pos, if_neg, aStore, frz, AV.flat, ↓reduceIte, ne_eq, reduceCtorEq, ByteArray.size, stO, stR, iR, hXc, d2]))
  · rw [show syS l B i e = (0, i, e) by rw [syS, if_pos c]]
    have d : decide ((e : Int) = 0) = false := decide_eq_false (by omega)
    repeat (first | refine wA ?_ | refine wB ?_ | refine wC rfl ?_ | refine wD rfl ?_ | refine wE ?_ | refine wF (by omega) ?_ | ((first | refine wG ?_ | refine wH ?_ | refine wI ?_ | refine wJ ?_ | refine wK ?_ | refine wL ?_); simp (disch := omega) only [wP, wZ, undef, seval, if_pos, if_neg, aStore, frz, AV.flat, ↓reduceIte, ne_eq, reduceCtorEq, ByteArray.size, stI, stR, stO, cdA, d, iR]))
end Go.Proofs.YtokdmakljdhjiaaDoor.Aw

namespace Go.Proofs.YtokdmakljdhjiaaDoor.Aw
open Go
set_option linter.unusedSimpArgs false
set_option linter.unusedVariables false

theorem rf_power_c [Tabs Tryd.prog] (k : Nat) (hk : k ≤ 20) : Con Tryd.prog n_drayageref04_power [int (k : Int)] (int ((2 ^ k : Nat) : Int)) := by
  refine Con.of' mix Tryd.func48 rfl Tryd.ntmps48 e_drayageref04_power r_drayageref04_power (by simp) rfl rfl ?_
  unfold s_drayageref04_power
  obtain ⟨p, hp⟩ : ∃ p : Nat → Nat, p = fun j => 2 ^ j := ⟨_, rfl⟩
  have hp0 : p 0 = 1 := by rw [hp]
  have hps : ∀ j, p (j + 1) = 2 * p j := fun j => by rw [hp]; simp only [Nat.pow_succ]; omega
  have hpl : ∀ j, j ≤ 20 → p j ≤ 1048576 := fun j hj => by rw [hp]; exact two_pow_le (n := j) (m := 20) hj
  rw [show (2 : Nat) ^ k = p k by rw [hp]]
  clear hp
  repeat (first | refine wA ?_ | refine wB ?_ | refine wC rfl ?_ | refine wD rfl ?_ | refine wE ?_ | refine wF (by omega) ?_ | ((first | refine wG ?_ | refine wH ?_ | refine wI ?_ | refine wJ ?_ | refine wK ?_ | refine wL ?_); simp (disch := omega) only [wP, wZ, undef, seval, if_pos, if_neg, aStore, frz, AV.flat, ↓reduceIte, ne_eq, reduceCtorEq, ByteArray.size]))
  refine SWp.loop (α := Nat) (fun j => mk 13 0 [(0, int (k : Int)), (3, int (p j : Nat)), (4, int (j : Int))] [])
    (fun j => j ≤ k) (fun j => k - j) 0 (Nat.zero_le _) (le_mk rfl ?_ ?_ ?_) ?_
  · exact Nat.le_refl _
  iterate 2 (case _ => simp (disch := omega) only [wP, wZ, undef, seval, if_pos, if_neg, aStore, frz, AV.flat, ↓reduceIte, ne_eq, reduceCtorEq, ByteArray.size, hp0])
  rintro j hj -
  have h1 := hpl j (by omega)
  have h2 := hps j
  obtain ⟨y, hy⟩ : ∃ y, y = p j := ⟨_, rfl⟩
  rw [← hy] at h1 h2 ⊢
  repeat (first | refine wA ?_ | refine wB ?_ | refine wC rfl ?_ | refine wD rfl ?_ | refine wE ?_ | refine wF (by omega) ?_ | ((first | refine wG ?_ | refine wH ?_ | refine wI ?_ | refine wJ ?_ | refine wK ?_ | refine wL ?_); simp (disch := omega) only [wP, wZ, undef, seval, if_pos, if_neg, aStore, frz, AV.flat, ↓reduceIte, ne_eq, reduceCtorEq, ByteArray.size]))
  refine SWp.cond rfl (fun h => ?_) (fun h => ?_)
  · simp only [decide_eq_true_eq] at h
    have e2 : (2 : Int) * (y : Int) = ((2 * y : Nat) : Int) := by omega
    rw [h2.symm] at e2
    have h3 := hpl (j + 1) (by omega)
    obtain ⟨z, hz⟩ : ∃ z, z = p (j + 1) := ⟨_, rfl⟩
    rw [← hz] at e2 h3
    repeat (first | refine wA ?_ | refine wB ?_ | refine wC rfl ?_ | refine wD rfl ?_ | refine wE ?_ | refine wF (by omega) ?_ | ((first | refine wG ?_ | refine wH ?_ | refine wI ?_ | refine wJ ?_ | refine wK ?_ | refine wL ?_); simp (disch := omega) only [wP, wZ, undef, seval, if_pos, if_neg, aStore, frz, AV.flat, ↓reduceIte, ne_eq, reduceCtorEq, ByteArray.size, e2]))
    refine At.of (j + 1) (by omega) (by omega) rfl rfl (Nat.le_refl _) ?_ ?_
    iterate 2 (case _ => simp (disch := omega) only [wP, wZ, undef, seval, if_pos, if_neg, aStore, frz, AV.flat, ↓reduceIte, ne_eq, reduceCtorEq, ByteArray.size, ← hz])
  · simp only [decide_eq_false_iff_not] at h
    obtain rfl : j = k := by omega
    repeat (first | refine wA ?_ | refine wB ?_ | refine wC rfl ?_ | refine wD rfl ?_ | refine wE ?_ | refine wF (by omega) ?_ | ((first | refine wG ?_ | refine wH ?_ | refine wI ?_ | refine wJ ?_ | refine wK ?_ | refine wL ?_); simp (disch := omega) only [wP, wZ, undef, seval, if_pos, if_neg, aStore, frz, AV.flat, ↓reduceIte, ne_eq, reduceCtorEq, ByteArray.size, ← hy]))

def leS (B : List Nat) (x i e : Nat) : Nat × Nat × Nat := if x < 8 then (3 + x, i, e) else if x = 28 then (258, i, e) else (3 + (4 + x % 4) * 2 ^ (x / 4 - 1) + (nuS B (x / 4 - 1) i e).1, (nuS B (x / 4 - 1) i e).2)
def diS (B : List Nat) (x i e : Nat) : Nat × Nat × Nat := if x < 4 then (1 + x, i, e) else (1 + (2 + x % 2) * 2 ^ (x / 2 - 1) + (nuS B (x / 2 - 1) i e).1, (nuS B (x / 2 - 1) i e).2)
theorem nuS_lt {B : List Nat} (hB : ∀ x ∈ B, x < 2) {n i e : Nat} (hn : n ≤ 24) : (nuS B n i e).1 < 16777216 := by
  unfold nuS
  split
  · simp only; omega
  · split
    · have h1 := numB_lt (l := (B.drop i).take n) fun x hx => hB x (List.mem_of_mem_drop (List.mem_of_mem_take hx))
      have h2 : 2 ^ ((B.drop i).take n).length ≤ 16777216 := two_pow_le (n := ((B.drop i).take n).length) (m := 24) (by rw [List.length_take]; omega)
      simp only
      omega
    · simp only; omega

set_option maxHeartbeats 1000000 in
set_option maxRecDepth 100000 in
theorem rf_length_h [Tabs Tryd.prog] (nb : Bool) (B : List Nat) (hBl : B.length ≤ 100000) (hB : ∀ x ∈ B, x < 2) (most i e : Nat) (hi : i ≤ B.length) (out : List UInt8) (x : Nat) (hx : x ≤ 28) :
    HCon Tryd.prog n_drayageref04_state_length [.op 1000 0 0, int ((x + 257 : Nat) : Int)] (stI nb B most i e out) (int ((leS B x i e).1 : Int)) (stO 0 nb B most (leS B x i e).2.1 (leS B x i e).2.2 out) 2 := by
  refine HCon.of' mix Tryd.func29 rfl Tryd.ntmps29 e_drayageref04_state_length r_drayageref04_state_length (by simp) (by simp [AV.gl, AV.gl.glL, int]) st_gl ?_
  unfold s_drayageref04_state_length
  have ex : ((x : Nat) : Int) + 257 - 257 = (x : Int) := by omega
  by_cases c1 : x < 8
  · have d1 : decide ((x : Int) < 8) = true := decide_eq_true (by omega)
    rw [show leS B x i e = (3 + x, i, e) by rw [leS, if_pos c1]]
    repeat (first | refine wA ?_ | refine wB ?_ | refine wC rfl ?_ | refine wD rfl ?_ | refine wE ?_ | refine wF (by omega) ?_ | ((first | refine wG ?_ | refine wH ?_ | refine wI ?_ | refine wJ ?_ | refine wK ?_ | refine wL ?_); simp (disch := omega) only [wP, wZ, undef, seval, if_pos, if_neg, aStore, frz, AV.flat, ↓reduceIte, ne_eq, reduceCtorEq, ByteArray.size, stI, stR, stO, ex, d1]))
  have d1 : decide ((x : Int) < 8) = false := decide_eq_false (by omega)
  by_cases c2 : x = 28
  · subst c2
    rw [show leS B 28 i e = (258, i, e) from rfl]
    repeat (first | refine wA ?_ | refine wB ?_ | refine wC rfl ?_ | refine wD rfl ?_ | refine wE ?_ | refine wF (by omega) ?_ | ((first | refine wG ?_ | refine wH ?_ | refine wI ?_ | refine wJ ?_ | refine wK ?_ | refine wL ?_); simp (disch := omega) only [wP, wZ, undef, seval, if_pos, if_neg, aStore, frz, AV.flat, ↓reduceIte, ne_eq, reduceCtorEq, ByteArray.size, stI, stR, stO, d1]))
  have d2 : decide ((x : Int) = 28) = false := decide_eq_false (by omega)
  rw [show leS B x i e = (3 + (4 + x % 4) * 2 ^ (x / 4 - 1) + (nuS B (x / 4 - 1) i e).1, (nuS B (x / 4 - 1) i e).2) by rw [leS, if_neg c1, if_neg c2]]
  obtain ⟨k, hk⟩ : ∃ k, k = x / 4 - 1 := ⟨_, rfl⟩
  obtain ⟨m, hm⟩ : ∃ m, m = x % 4 := ⟨_, rfl⟩
  obtain ⟨q, hq⟩ : ∃ q, q = x / 4 := ⟨_, rfl⟩
  rw [← hk, ← hm]
  have e1 : (q : Int) - 1 = (k : Int) := by omega
  have hk6 : k ≤ 6 := by omega
  have hm4 : m < 4 := by omega
  have hp : 2 ^ k ≤ 64 := two_pow_le (n := k) (m := 6) hk6
  have hz2 : (4 + m) * 2 ^ k ≤ 7 * 64 := Nat.mul_le_mul (by omega) hp
  have hP := rf_power_c k (by omega)
  have hN := rf_number_h nb B hBl hB most i e hi out k (by omega)
  have hnl := nuS_lt hB (n := k) (i := i) (e := e) (by omega)
  obtain ⟨p, hpd⟩ : ∃ p, p = 2 ^ k := ⟨_, rfl⟩
  rw [← hpd] at hP hp hz2 ⊢
  obtain ⟨z, hz⟩ : ∃ z, z = (4 + m) * p := ⟨_, rfl⟩
  have e2 : ((4 : Int) + (m : Int)) * (p : Int) = (z : Int) := by rw [hz, Int.natCast_mul, Int.natCast_add]; rfl
  rw [← hz] at hz2 ⊢
  obtain ⟨⟨v, j, f⟩, hv⟩ : ∃ r, r = nuS B k i e := ⟨_, rfl⟩
  rw [← hv] at hN hnl ⊢
  repeat (first | refine wA ?_ | refine wB ?_ | refine wC rfl ?_ | refine wD rfl ?_ | refine wE ?_ | refine wF (by omega) ?_ | ((first | refine wG ?_ | refine wH ?_ | refine wI ?_ | refine wJ ?_ | refine wK ?_ | refine wL ?_); simp (disch := omega) only [wP, wZ, undef, seval, if_pos, if_neg, aStore, frz, AV.flat, ↓reduceIte, ne_eq, reduceCtorEq, ByteArray.size, d1, d2, ex, ← hq, ← hm, e1]))
  refine goC_p _ (.inl ⟨rfl, hP⟩) ?_
  repeat (first | refine wA ?_ | refine wB ?_ | refine wC rfl ?_ | refine wD rfl ?_ | refine wE ?_ | refine wF (by omega) ?_ | ((first | refine wG ?_ | refine wH ?_ | refine wI ?_ | refine wJ ?_ | refine wK ?_ | refine wL ?_); simp (disch := omega) only [wP, wZ, undef, seval, if_pos, if_neg, aStore, frz, AV.flat, ↓reduceIte, ne_eq, reduceCtorEq, ByteArray.size, e2]))
  refine goC_h [(1000, 0), (1001, 0)] 2000 hN (by simp) (by simp) ?_ ?_ ?_
  iterate 2 (case _ => simp (disch := omega) only [wP, wZ, undef, seval, if_pos, if_neg, aStore, frz, AV.flat, ↓reduceIte, ne_eq, reduceCtorEq, ByteArray.size, stI, stR, iR])
  repeat (first | refine wA ?_ | refine wB ?_ | refine wC rfl ?_ | refine wD rfl ?_ | refine wE ?_ | refine wF (by omega) ?_ | ((first | refine wG ?_ | refine wH ?_ | refine wI ?_ | refine wJ ?_ | refine wK ?_ | refine wL ?_); simp (disch := omega) only [wP, wZ, undef, seval, if_pos, if_neg, aStore, frz, AV.flat, ↓reduceIte, ne_eq, reduceCtorEq, ByteArray.size, stO, stR, iR]))

set_option maxHeartbeats 1000000 in
set_option maxRecDepth 100000 in
theorem rf_distance_h [Tabs Tryd.prog] (nb : Bool) (B : List Nat) (hBl : B.length ≤ 100000) (hB : ∀ x ∈ B, x < 2) (most i e : Nat) (hi : i ≤ B.length) (out : List UInt8) (x : Nat) (hx : x ≤ 29) :
    HCon Tryd.prog n_drayageref04_state_distance [.op 1000 0 0, int (x : Int)] (stI nb B most i e out) (int ((diS B x i e).1 : Int)) (stO 0 nb B most (diS B x i e).2.1 (diS B x i e).2.2 out) 2 := by
  refine HCon.of' mix Tryd.func30 rfl Tryd.ntmps30 e_drayageref04_state_distance r_drayageref04_state_distance (by simp) (by simp [AV.gl, AV.gl.glL, int]) st_gl ?_
  unfold s_drayageref04_state_distance
  by_cases c1 : x < 4
  · have d1 : decide ((x : Int) < 4) = true := decide_eq_true (by omega)
    rw [show diS B x i e = (1 + x, i, e) by rw [diS, if_pos c1]]
    repeat (first | refine wA ?_ | refine wB ?_ | refine wC rfl ?_ | refine wD rfl ?_ | refine wE ?_ | refine wF (by omega) ?_ | ((first | refine wG ?_ | refine wH ?_ | refine wI ?_ | refine wJ ?_ | refine wK ?_ | refine wL ?_); simp (disch := omega) only [wP, wZ, undef, seval, if_pos, if_neg, aStore, frz, AV.flat, ↓reduceIte, ne_eq, reduceCtorEq, ByteArray.size, stI, stR, stO, d1]))
  have d1 : decide ((x : Int) < 4) = false := decide_eq_false (by omega)
  rw [show diS B x i e = (1 + (2 + x % 2) * 2 ^ (x / 2 - 1) + (nuS B (x / 2 - 1) i e).1, (nuS B (x / 2 - 1) i e).2) by rw [diS, if_neg c1]]
  obtain ⟨k, hk⟩ : ∃ k, k = x / 2 - 1 := ⟨_, rfl⟩
  obtain ⟨m, hm⟩ : ∃ m, m = x % 2 := ⟨_, rfl⟩
  obtain ⟨q, hq⟩ : ∃ q, q = x / 2 := ⟨_, rfl⟩
  rw [← hk, ← hm]
  have e1 : (q : Int) - 1 = (k : Int) := by omega
  have hk6 : k ≤ 13 := by omega
  have hm4 : m < 2 := by omega
  have hp : 2 ^ k ≤ 8192 := two_pow_le (n := k) (m := 13) hk6
  have hz2 : (2 + m) * 2 ^ k ≤ 3 * 8192 := Nat.mul_le_mul (by omega) hp
  have hP := rf_power_c k (by omega)
  have hN := rf_number_h nb B hBl hB most i e hi out k (by omega)
  have hnl := nuS_lt hB (n := k) (i := i) (e := e) (by omega)
  obtain ⟨p, hpd⟩ : ∃ p, p = 2 ^ k := ⟨_, rfl⟩
  rw [← hpd] at hP hp hz2 ⊢
  obtain ⟨z, hz⟩ : ∃ z, z = (2 + m) * p := ⟨_, rfl⟩
  have e2 : ((2 : Int) + (m : Int)) * (p : Int) = (z : Int) := by rw [hz, Int.natCast_mul, Int.natCast_add]; rfl
  rw [← hz] at hz2 ⊢
  obtain ⟨⟨v, j, f⟩, hv⟩ : ∃ r, r = nuS B k i e := ⟨_, rfl⟩
  rw [← hv] at hN hnl ⊢
  repeat (first | refine wA ?_ | refine wB ?_ | refine wC rfl ?_ | refine wD rfl ?_ | refine wE ?_ | refine wF (by omega) ?_ | ((first | refine wG ?_ | refine wH ?_ | refine wI ?_ | refine wJ ?_ | refine wK ?_ | refine wL ?_); simp (disch := omega) only [wP, wZ, undef, seval, if_pos, if_neg, aStore, frz, AV.flat, ↓reduceIte, ne_eq, reduceCtorEq, ByteArray.size, d1, ← hq, ← hm, e1]))
  refine goC_p _ (.inl ⟨rfl, hP⟩) ?_
  repeat (first | refine wA ?_ | refine wB ?_ | refine wC rfl ?_ | refine wD rfl ?_ | refine wE ?_ | refine wF (by omega) ?_ | ((first | refine wG ?_ | refine wH ?_ | refine wI ?_ | refine wJ ?_ | refine wK ?_ | refine wL ?_); simp (disch := omega) only [wP, wZ, undef, seval, if_pos, if_neg, aStore, frz, AV.flat, ↓reduceIte, ne_eq, reduceCtorEq, ByteArray.size, e2]))
  refine goC_h [(1000, 0), (1001, 0)] 2000 hN (by simp) (by simp) ?_ ?_ ?_
  iterate 2 (case _ => simp (disch := omega) only [wP, wZ, undef, seval, if_pos, if_neg, aStore, frz, AV.flat, ↓reduceIte, ne_eq, reduceCtorEq, ByteArray.size, stI, stR, iR])
  repeat (first | refine wA ?_ | refine wB ?_ | refine wC rfl ?_ | refine wD rfl ?_ | refine wE ?_ | refine wF (by omega) ?_ | ((first | refine wG ?_ | refine wH ?_ | refine wI ?_ | refine wJ ?_ | refine wK ?_ | refine wL ?_); simp (disch := omega) only [wP, wZ, undef, seval, if_pos, if_neg, aStore, frz, AV.flat, ↓reduceIte, ne_eq, reduceCtorEq, ByteArray.size, stO, stR, iR]))
end Go.Proofs.YtokdmakljdhjiaaDoor.Aw
