/- Contracts: (*state).coded of drayageref04. -/
import Derived.Test.YtokdmakljdhjiaaDoorPkF
namespace Go.Proofs.YtokdmakljdhjiaaDoor.Aw
open Go
set_option linter.unusedSimpArgs false
set_option linter.unusedVariables false

theorem nuS_run {B : List Nat} {n i : Nat} (hi : i ≤ B.length) : (numT n).run B i = if (nuS B n i 0).2.2 = 0 then .ok (nuS B n i 0).1 (nuS B n i 0).2.1 else .no (nuS B n i 0).2.2 := by
  have hn : nuS B n i 0 = if i + n ≤ B.length then (numB ((B.drop i).take n), i + n, 0) else (0, i, 2) := by rw [nuS, if_neg (by simp)]
  rw [run_numT hi, hn]
  by_cases c : i + n ≤ B.length
  · rw [if_pos c, if_pos c, if_pos rfl]
  · rw [if_neg c, if_neg c, if_neg (by simp)]
theorem leS_run {B : List Nat} {x i : Nat} (hi : i ≤ B.length) (hx : x ≤ 28) : (lenT x).run B i = if (leS B x i 0).2.2 = 0 then .ok (leS B x i 0).1 (leS B x i 0).2.1 else .no (leS B x i 0).2.2 := by
  unfold lenT leS
  rw [if_neg (by omega)]
  by_cases c2 : x = 28
  · subst c2; rfl
  · rw [if_neg c2]
    by_cases c1 : x < 8
    · rw [if_pos c1, if_pos c1]; rfl
    · rw [if_neg c1, if_neg c1, if_neg c2, plusT, run_bnd, nuS_run hi]
      obtain ⟨⟨v, j, f⟩, hr⟩ : ∃ r, r = nuS B (x / 4 - 1) i 0 := ⟨_, rfl⟩
      rw [← hr]
      by_cases q : f = 0
      · simp only [if_pos q]; rfl
      · simp only [if_neg q]; rfl
theorem diS_run {B : List Nat} {x i : Nat} (hi : i ≤ B.length) (hx : x ≤ 29) : (disT x).run B i = if (diS B x i 0).2.2 = 0 then .ok (diS B x i 0).1 (diS B x i 0).2.1 else .no (diS B x i 0).2.2 := by
  unfold disT diS
  rw [if_neg (by omega)]
  by_cases c1 : x < 4
  · rw [if_pos c1, if_pos c1]; rfl
  · rw [if_neg c1, if_neg c1, plusT, run_bnd, nuS_run hi]
    obtain ⟨⟨v, j, f⟩, hr⟩ : ∃ r, r = nuS B (x / 2 - 1) i 0 := ⟨_, rfl⟩
    rw [← hr]
    by_cases q : f = 0
    · simp only [if_pos q]; rfl
    · simp only [if_neg q]; rfl
theorem syS_run {l B : List Nat} {i : Nat} : (nxtT l 15 0 0).run B i = if (syS l B i 0).2.2 = 0 then .ok (syS l B i 0).1 (syS l B i 0).2.1 else .no (syS l B i 0).2.2 := by
  rw [run_nxt, nxtR, syS, if_neg (show ¬ (0 : Nat) ≠ 0 by simp)]
  obtain ⟨⟨v, j, f⟩, hr⟩ : ∃ r, r = nxt l (B.drop i) 15 0 0 := ⟨_, rfl⟩
  rw [← hr]
  by_cases q : f = 0
  · simp only [if_pos q]; rfl
  · simp only [if_neg q]
theorem nuS_lt2 {B : List Nat} (hB : ∀ x ∈ B, x < 2) {n i e : Nat} : (nuS B n i e).1 < 2 ^ n := by
  have hp : 0 < 2 ^ n := Nat.pow_pos (by omega)
  unfold nuS
  split
  · simp only; omega
  · split
    · have h1 := numB_lt (l := (B.drop i).take n) fun x hx => hB x (List.mem_of_mem_drop (List.mem_of_mem_take hx))
      have h2 : 2 ^ ((B.drop i).take n).length ≤ 2 ^ n := two_pow_le (by rw [List.length_take]; omega)
      simp only
      omega
    · simp only; omega
theorem leS_facts {B : List Nat} (hB : ∀ x ∈ B, x < 2) {x i : Nat} (hi : i ≤ B.length) (hx : x ≤ 28) : 3 ≤ (leS B x i 0).1 ∧ (leS B x i 0).1 ≤ 258 ∧ (leS B x i 0).2.1 ≤ B.length ∧ i ≤ (leS B x i 0).2.1 := by
  have h2 := nuS_lt2 hB (n := x / 4 - 1) (i := i) (e := 0)
  have h3 : (nuS B (x / 4 - 1) i 0).2.1 ≤ B.length ∧ i ≤ (nuS B (x / 4 - 1) i 0).2.1 := by
    unfold nuS; split
    · exact ⟨hi, Nat.le_refl _⟩
    · split <;> simp only <;> omega
  unfold leS
  split
  · simp only; omega
  · split
    · simp only; omega
    · simp only
      rename_i h1 h4
      have hk : x / 4 - 1 = 1 ∨ x / 4 - 1 = 2 ∨ x / 4 - 1 = 3 ∨ x / 4 - 1 = 4 ∨ x / 4 - 1 = 5 := by omega
      have hm : x % 4 < 4 := by omega
      generalize x % 4 = m at *
      generalize x / 4 - 1 = k at *
      rcases hk with rfl | rfl | rfl | rfl | rfl <;> omega
theorem diS_facts {B : List Nat} (hB : ∀ x ∈ B, x < 2) {x i : Nat} (hi : i ≤ B.length) (hx : x ≤ 29) : 1 ≤ (diS B x i 0).1 ∧ (diS B x i 0).1 < 16900000 ∧ (diS B x i 0).2.1 ≤ B.length := by
  have h2 := nuS_lt hB (n := x / 2 - 1) (i := i) (e := 0) (by omega)
  have hp : 2 ^ (x / 2 - 1) ≤ 8192 := two_pow_le (n := x / 2 - 1) (m := 13) (by omega)
  have hz : (2 + x % 2) * 2 ^ (x / 2 - 1) ≤ 3 * 8192 := Nat.mul_le_mul (by omega) hp
  have h3 : (nuS B (x / 2 - 1) i 0).2.1 ≤ B.length := by
    unfold nuS; split
    · exact hi
    · split <;> simp only <;> omega
  unfold diS
  split
  · simp only; omega
  · simp only; omega
theorem syS_facts {l B : List Nat} (hl : l.length ≤ 320) {i : Nat} (hi : i ≤ B.length) : (syS l B i 0).1 < 320 ∧ i ≤ (syS l B i 0).2.1 ∧ (syS l B i 0).2.1 ≤ B.length ∧ ((syS l B i 0).2.2 = 0 → i < (syS l B i 0).2.1) ∧ (syS l B i 0).2.2 ≤ 10 := by
  have hfc := nxt_facts (l := l) (B := B.drop i) 15 0 0 (Nat.zero_le _)
  have hsy := nxt_sym (l := l) (B := B.drop i) 15 0 0
  rw [List.length_drop] at hfc
  unfold syS
  rw [if_neg (by simp)]
  split
  · rename_i h
    have := hsy h
    simp only
    omega
  · simp only
    omega

theorem diS_ge {B : List Nat} {x i : Nat} : i ≤ (diS B x i 0).2.1 := by
  unfold diS nuS
  split
  · exact Nat.le_refl _
  · rw [if_neg (by simp)]
    split <;> simp

def houC (K : Nat) (nb : Bool) (B : List Nat) (most : Nat) : BR (List UInt8) → List (Nat × Nat × AO)
  | .ok o j => stO K nb B most j 0 o
  | .no e => [(1000, 0, .row false (jkR e))]

set_option maxHeartbeats 4000000 in
set_option maxRecDepth 100000 in
theorem rf_coded_h [Tabs Tryd.prog] (nb : Bool) (B : List Nat) (hBl : B.length ≤ 100000) (hB : ∀ x ∈ B, x < 2) (most : Nat) (hm : most ≤ 16777216) (i : Nat) (hi : i ≤ B.length) (out : List UInt8) (ho : out.length ≤ most)
    (n1 m1 : Bool) (l : List Nat) (hl : l.length ≤ 320) (hl15 : ∀ x ∈ l, x ≤ 15) (hKl : kraft l ≤ 32768) (n2 m2 : Bool) (d : List Nat) (hd : d.length ≤ 320) (hd15 : ∀ x ∈ d, x ≤ 15) (hKd : kraft d ≤ 32768)
    (F : Nat) (hF : B.length - i < F) (r : BR (List UInt8)) (hr : (symT l d most F out).run B i = r) :
    HCon Tryd.prog n_drayageref04_state_coded [.op 1000 0 0, cdA n1 m1 l, cdA n2 m2 d] (stI nb B most i 0 out) (.tup []) (houC (1000 * F + 3) nb B most r) (1000 * F + 4) := by
  refine HCon.of' mix Tryd.func15 rfl Tryd.ntmps15 e_drayageref04_state_coded r_drayageref04_state_coded (by simp) (by simp only [AV.gl.glL, AV.gl, and_true]; exact ⟨by omega, gl_of_free 1 _ free_cdA, gl_of_free 1 _ free_cdA⟩) st_gl ?_
  unfold s_drayageref04_state_coded
  have hse := fun e (q : (symT l d most F out).run B i = .no e) => safe_run (safe_sym F out) q
  rw [hr] at hse
  repeat (first | refine wA ?_ | refine wB ?_ | refine wC rfl ?_ | refine wD rfl ?_ | refine wE ?_ | refine wF (by omega) ?_ | ((first | refine wG ?_ | refine wH ?_ | refine wI ?_ | refine wJ ?_ | refine wK ?_ | refine wL ?_); simp (disch := omega) only [wP, wZ, undef, seval, if_pos, if_neg, aStore, frz, AV.flat, ↓reduceIte, ne_eq, reduceCtorEq, ByteArray.size, cdA]))
  refine SWp.loop (α := Nat × List UInt8 × Nat × Nat × Nat × Nat) (fun x => mk 137 x.2.2.2.2.1 [(0, .op 1000 0 0), (4, .op 4 1 0), (5, .op 5 2 0)] [(1000, 0, .row false (stR nb B most x.2.2.2.1 x.2.1.length x.2.2.1 x.2.2.2.2.2)), (1001, x.2.2.2.1, .row (nl0 x.2.1.length) (x.2.1.map u8)), (4, 1, .row false [.sl n1 none (l.map nA), .sl m1 none ((codesL l).map nA)]), (5, 2, .row false [.sl n2 none (d.map nA), .sl m2 none ((codesL d).map nA)])])
    (fun x => x.2.2.2.2.1 + 1000 * x.1 ≤ 1000 * F + 3 ∧ ((x.2.2.2.2.2 = 0 ∧ (symT l d most x.1 x.2.1).run B x.2.2.1 = r ∧ x.2.2.1 ≤ B.length ∧ B.length - x.2.2.1 < x.1 ∧ x.2.1.length ≤ most) ∨ (x.2.2.2.2.2 ≠ 0 ∧ r = .no x.2.2.2.2.2))) (fun x => x.1 + (if x.2.2.2.2.2 = 0 then 1 else 0)) (F, out, i, 0, 3, 0) ⟨by simp only; omega, .inl ⟨rfl, hr, hi, hF, ho⟩⟩ (le_mk rfl ?_ ?_ ?_) ?_
  · exact Nat.le_refl _
  iterate 2 (case _ => simp (disch := omega) only [wP, wZ, undef, seval, if_pos, if_neg, aStore, frz, AV.flat, ↓reduceIte, ne_eq, reduceCtorEq, ByteArray.size, stI, iR])
  rintro ⟨f, o, p, g, c, e⟩ ⟨hc, hx⟩ -
  simp only at hc hx
  rcases hx with ⟨rfl, hx, hp, hf, hom⟩ | ⟨he, rfl⟩
  · obtain ⟨f, rfl⟩ : ∃ f', f = f' + 1 := ⟨f - 1, by omega⟩
    clear hr
    rw [symT, run_bnd, syS_run] at hx
    have hS1 := rf_symbol_h nb B hBl hB most p 0 hp o n1 m1 l hl hl15 hKl
    obtain ⟨hs320, hpq, hqB, hq0, he10⟩ := syS_facts hl (l := l) hp
    obtain ⟨⟨sy, q, e1⟩, hs1⟩ : ∃ s, s = syS l B p 0 := ⟨_, rfl⟩
    rw [← hs1] at hS1 hx hs320 hpq hqB hq0 he10
    simp only at hS1 hx hs320 hpq hqB hq0 he10
    clear hs1
    by_cases c1 : e1 = 0
    · subst c1
      have hq0 := hq0 rfl
      rw [if_pos rfl] at hx
      simp only [BR.bnd] at hx
      by_cases c2 : sy < 256
      · rw [if_pos c2] at hx
        have d2 : decide ((sy : Int) = 256) = false := decide_eq_false (by omega)
        have d3 : decide ((sy : Int) < 256) = true := decide_eq_true (by omega)
        obtain ⟨v, rfl⟩ : ∃ v : UInt8, sy = v.toNat := ⟨UInt8.ofNat sy, by rw [UInt8.toNat_ofNat', Nat.mod_eq_of_lt (by omega)]⟩
        rw [UInt8.ofNat_toNat] at hx
        have hv := v.toNat_lt
        by_cases c3 : most ≤ o.length
        · rw [if_pos c3] at hx
          simp only [BT.run] at hx
          subst hx
          have d4 : decide ((most : Int) ≤ (o.length : Int)) = true := decide_eq_true (by omega)
          have hb := rf_bad_h nb B most q 0 o true 4
          rw [if_pos ⟨rfl, rfl⟩] at hb
          repeat (first | refine wA ?_ | refine wB ?_ | refine wC rfl ?_ | refine wD rfl ?_ | refine wE ?_ | refine wF (by omega) ?_ | ((first | refine wG ?_ | refine wH ?_ | refine wI ?_ | refine wJ ?_ | refine wK ?_ | refine wL ?_); simp (disch := omega) only [wP, wZ, undef, seval, if_pos, if_neg, aStore, frz, AV.flat, ↓reduceIte, ne_eq, reduceCtorEq, ByteArray.size, stR]))
          refine goC_h [(1000, 0), (1001, g)] 2000 hS1 (by simp) (by simp) ?_ ?_ ?_
          iterate 2 (case _ => simp (disch := omega) only [wP, wZ, undef, seval, if_pos, if_neg, aStore, frz, AV.flat, ↓reduceIte, ne_eq, reduceCtorEq, ByteArray.size, stI, stR, iR, cdA])
          repeat (first | refine wA ?_ | refine wB ?_ | refine wC rfl ?_ | refine wD rfl ?_ | refine wE ?_ | refine wF (by omega) ?_ | ((first | refine wG ?_ | refine wH ?_ | refine wI ?_ | refine wJ ?_ | refine wK ?_ | refine wL ?_); simp (disch := omega) only [wP, wZ, undef, seval, if_pos, if_neg, aStore, frz, AV.flat, ↓reduceIte, ne_eq, reduceCtorEq, ByteArray.size, stO, stR, iR, d2, d3, d4]))
          refine goC_h [(1000, 0), (1001, g)] 3000 hb (by simp) (by simp) ?_ ?_ ?_
          iterate 2 (case _ => simp (disch := omega) only [wP, wZ, undef, seval, if_pos, if_neg, aStore, frz, AV.flat, ↓reduceIte, ne_eq, reduceCtorEq, ByteArray.size, stI, stR, iR, cdA])
          repeat (first | refine wA ?_ | refine wB ?_ | refine wC rfl ?_ | refine wD rfl ?_ | refine wE ?_ | refine wF (by omega) ?_ | ((first | refine wG ?_ | refine wH ?_ | refine wI ?_ | refine wJ ?_ | refine wK ?_ | refine wL ?_); simp (disch := omega) only [wP, wZ, undef, seval, if_pos, if_neg, aStore, frz, AV.flat, ↓reduceIte, ne_eq, reduceCtorEq, ByteArray.size, stO, stR, iR]))
          refine At.of (f, o ++ [v], q, c + 4 + 1, c + 4 + 1 + 1, 4) ⟨by simp only; omega, .inr ⟨by simp, rfl⟩⟩ (by simp <;> omega) rfl rfl ?_ ?_ ?_
          · simp only; omega
          iterate 2 (case _ => simp (disch := omega) only [wP, wZ, undef, seval, if_pos, if_neg, aStore, frz, AV.flat, ↓reduceIte, ne_eq, reduceCtorEq, ByteArray.size, stR, nl0_succ, iR])
        · rw [if_neg c3] at hx
          have d4 : decide ((most : Int) ≤ (o.length : Int)) = false := decide_eq_false (by omega)
          have hb := rf_bad_h nb B most q 0 o false 4
          rw [if_neg (by simp)] at hb
          repeat (first | refine wA ?_ | refine wB ?_ | refine wC rfl ?_ | refine wD rfl ?_ | refine wE ?_ | refine wF (by omega) ?_ | ((first | refine wG ?_ | refine wH ?_ | refine wI ?_ | refine wJ ?_ | refine wK ?_ | refine wL ?_); simp (disch := omega) only [wP, wZ, undef, seval, if_pos, if_neg, aStore, frz, AV.flat, ↓reduceIte, ne_eq, reduceCtorEq, ByteArray.size, stR]))
          refine goC_h [(1000, 0), (1001, g)] 2000 hS1 (by simp) (by simp) ?_ ?_ ?_
          iterate 2 (case _ => simp (disch := omega) only [wP, wZ, undef, seval, if_pos, if_neg, aStore, frz, AV.flat, ↓reduceIte, ne_eq, reduceCtorEq, ByteArray.size, stI, stR, iR, cdA])
          repeat (first | refine wA ?_ | refine wB ?_ | refine wC rfl ?_ | refine wD rfl ?_ | refine wE ?_ | refine wF (by omega) ?_ | ((first | refine wG ?_ | refine wH ?_ | refine wI ?_ | refine wJ ?_ | refine wK ?_ | refine wL ?_); simp (disch := omega) only [wP, wZ, undef, seval, if_pos, if_neg, aStore, frz, AV.flat, ↓reduceIte, ne_eq, reduceCtorEq, ByteArray.size, stO, stR, iR, d2, d3, d4]))
          refine goC_h [(1000, 0), (1001, g)] 3000 hb (by simp) (by simp) ?_ ?_ ?_
          iterate 2 (case _ => simp (disch := omega) only [wP, wZ, undef, seval, if_pos, if_neg, aStore, frz, AV.flat, ↓reduceIte, ne_eq, reduceCtorEq, ByteArray.size, stI, stR, iR, cdA])
          repeat (first | refine wA ?_ | refine wB ?_ | refine wC rfl ?_ | refine wD rfl ?_ | refine wE ?_ | refine wF (by omega) ?_ | ((first | refine wG ?_ | refine wH ?_ | refine wI ?_ | refine wJ ?_ | refine wK ?_ | refine wL ?_); simp (disch := omega) only [wP, wZ, undef, seval, if_pos, if_neg, aStore, frz, AV.flat, ↓reduceIte, ne_eq, reduceCtorEq, ByteArray.size, stO, stR, iR]))
          refine At.of (f, o ++ [v], q, c + 4 + 1, c + 4 + 1 + 1, 0) ⟨by simp only; omega, .inl ⟨rfl, hx, hqB, by simp only; omega, by simp only [List.length_append, List.length_singleton]; omega⟩⟩ (by simp <;> omega) rfl rfl ?_ ?_ ?_
          · simp only; omega
          iterate 2 (case _ => simp (disch := omega) only [wP, wZ, undef, seval, if_pos, if_neg, aStore, frz, AV.flat, ↓reduceIte, ne_eq, reduceCtorEq, ByteArray.size, stR, nl0_succ, iR])
      · rw [if_neg c2] at hx
        have d3 : decide ((sy : Int) < 256) = false := decide_eq_false (by omega)
        by_cases c3 : sy = 256
        · rw [if_pos c3] at hx
          simp only [BT.run] at hx
          subst hx c3
          repeat (first | refine wA ?_ | refine wB ?_ | refine wC rfl ?_ | refine wD rfl ?_ | refine wE ?_ | refine wF (by omega) ?_ | ((first | refine wG ?_ | refine wH ?_ | refine wI ?_ | refine wJ ?_ | refine wK ?_ | refine wL ?_); simp (disch := omega) only [wP, wZ, undef, seval, if_pos, if_neg, aStore, frz, AV.flat, ↓reduceIte, ne_eq, reduceCtorEq, ByteArray.size, stR]))
          refine goC_h [(1000, 0), (1001, g)] 2000 hS1 (by simp) (by simp) ?_ ?_ ?_
          iterate 2 (case _ => simp (disch := omega) only [wP, wZ, undef, seval, if_pos, if_neg, aStore, frz, AV.flat, ↓reduceIte, ne_eq, reduceCtorEq, ByteArray.size, stI, stR, iR, cdA])
          iterate 1 (first | refine wA ?_ | refine wB ?_ | refine wC rfl ?_ | refine wD rfl ?_ | refine wE ?_ | refine wF (by omega) ?_ | ((first | refine wG ?_ | refine wH ?_ | refine wI ?_ | refine wJ ?_ | refine wK ?_ | refine wL ?_); simp (disch := omega) only [wP, wZ, undef, seval, if_pos, if_neg, aStore, frz, AV.flat, ↓reduceIte, ne_eq, reduceCtorEq, ByteArray.size, stO, stR, iR]))
          refine SWp.le (le_mk (N := 137) (gc := 1000 * F + 3) (l := [(0, .op 1000 0 0), (6, int 256)]) (h := [(1000, 0, .row false (stR nb B most g o.length q 0)), (1001, g, .row (nl0 o.length) (o.map u8))]) rfl ?_ ?_ ?_) ?_
          · simp only; omega
          iterate 2 (case _ => simp (disch := omega) only [wP, wZ, undef, seval, if_pos, if_neg, aStore, frz, AV.flat, ↓reduceIte, ne_eq, reduceCtorEq, ByteArray.size, stR, iR])
          refine SWp.renew 1001 g (o := .row (nl0 o.length) (o.map u8)) (by simp (disch := omega) only [wP, wZ, undef, seval, if_pos, if_neg, aStore, frz, AV.flat, ↓reduceIte, ne_eq, reduceCtorEq, ByteArray.size]) ?_
          refine SWp.le (le_mk (N := 137) (gc := 1000 * F + 4) (l := [(0, .op 1000 0 0), (6, int 256)]) (h := [(1000, 0, .row false (stR nb B most (1000 * F + 3) o.length q 0)), (1001, 1000 * F + 3, .row (nl0 o.length) (o.map u8))]) rfl ?_ ?_ ?_) ?_
          · exact Nat.le_refl _
          iterate 2 (case _ => simp (disch := omega) only [wP, wZ, undef, seval, if_pos, if_neg, aStore, frz, AV.flat, ↓reduceIte, ne_eq, reduceCtorEq, ByteArray.size, rgn_eq, rgH_at, stR, iR])
          repeat (first | refine wA ?_ | refine wB ?_ | refine wC rfl ?_ | refine wD rfl ?_ | refine wE ?_ | refine wF (by omega) ?_ | ((first | refine wG ?_ | refine wH ?_ | refine wI ?_ | refine wJ ?_ | refine wK ?_ | refine wL ?_); simp (disch := omega) only [wP, wZ, undef, seval, if_pos, if_neg, aStore, frz, AV.flat, ↓reduceIte, ne_eq, reduceCtorEq, ByteArray.size, houC, stO, stR, iR]))
        · rw [if_neg c3, run_bnd, runT, run_bnd] at hx
          have d2 : decide ((sy : Int) = 256) = false := decide_eq_false (by omega)
          by_cases c4 : 29 ≤ sy - 257
          · rw [show lenT (sy - 257) = .err 3 by rw [lenT, if_pos c4]] at hx
            simp only [BT.run, BR.bnd] at hx
            subst hx
            have d4 : decide ((285 : Int) < (sy : Int)) = true := decide_eq_true (by omega)
            have hb := rf_bad_h nb B most q 0 o true 3
            rw [if_pos ⟨rfl, rfl⟩] at hb
            repeat (first | refine wA ?_ | refine wB ?_ | refine wC rfl ?_ | refine wD rfl ?_ | refine wE ?_ | refine wF (by omega) ?_ | ((first | refine wG ?_ | refine wH ?_ | refine wI ?_ | refine wJ ?_ | refine wK ?_ | refine wL ?_); simp (disch := omega) only [wP, wZ, undef, seval, if_pos, if_neg, aStore, frz, AV.flat, ↓reduceIte, ne_eq, reduceCtorEq, ByteArray.size, stR]))
            refine goC_h [(1000, 0), (1001, g)] 2000 hS1 (by simp) (by simp) ?_ ?_ ?_
            iterate 2 (case _ => simp (disch := omega) only [wP, wZ, undef, seval, if_pos, if_neg, aStore, frz, AV.flat, ↓reduceIte, ne_eq, reduceCtorEq, ByteArray.size, stI, stR, iR, cdA])
            repeat (first | refine wA ?_ | refine wB ?_ | refine wC rfl ?_ | refine wD rfl ?_ | refine wE ?_ | refine wF (by omega) ?_ | ((first | refine wG ?_ | refine wH ?_ | refine wI ?_ | refine wJ ?_ | refine wK ?_ | refine wL ?_); simp (disch := omega) only [wP, wZ, undef, seval, if_pos, if_neg, aStore, frz, AV.flat, ↓reduceIte, ne_eq, reduceCtorEq, ByteArray.size, stO, stR, iR, d2, d3, d4]))
            refine goC_h [(1000, 0), (1001, g)] 3000 hb (by simp) (by simp) ?_ ?_ ?_
            iterate 2 (case _ => simp (disch := omega) only [wP, wZ, undef, seval, if_pos, if_neg, aStore, frz, AV.flat, ↓reduceIte, ne_eq, reduceCtorEq, ByteArray.size, stI, stR, iR, cdA])
            simp (disch := omega) only [wP, wZ, undef, seval, if_pos, if_neg, aStore, frz, AV.flat, ↓reduceIte, ne_eq, reduceCtorEq, ByteArray.size, stO, stR, iR]
            refine SWp.le (le_mk (N := 137) (gc := 1000 * F + 3) (l := [(0, .op 1000 0 0)]) (h := [(1000, 0, .row false (stR nb B most g o.length q 3))]) rfl ?_ ?_ ?_) ?_
            · simp only; omega
            iterate 2 (case _ => simp (disch := omega) only [wP, wZ, undef, seval, if_pos, if_neg, aStore, frz, AV.flat, ↓reduceIte, ne_eq, reduceCtorEq, ByteArray.size, stR, iR])
            refine SWp.blur 1000 0 (nl := false) (cells := (stR nb B most g o.length q 3)) (jkR 3) (by simp (disch := omega) only [wP, wZ, undef, seval, if_pos, if_neg, aStore, frz, AV.flat, ↓reduceIte, ne_eq, reduceCtorEq, ByteArray.size]) (by simp only [stR, jkR, Blur]; simp) ?_
            refine SWp.le (le_mk (N := 137) (gc := 1000 * F + 3) (l := [(0, .op 1000 0 0)]) (h := [(1000, 0, .row false (jkR 3))]) rfl ?_ ?_ ?_) ?_
            · exact Nat.le_refl _
            iterate 2 (case _ => simp (disch := omega) only [wP, wZ, undef, seval, if_pos, if_neg, aStore, frz, AV.flat, ↓reduceIte, ne_eq, reduceCtorEq, ByteArray.size])
            repeat (first | refine wA ?_ | refine wB ?_ | refine wC rfl ?_ | refine wD rfl ?_ | refine wE ?_ | refine wF (by omega) ?_ | ((first | refine wG ?_ | refine wH ?_ | refine wI ?_ | refine wJ ?_ | refine wK ?_ | refine wL ?_); simp (disch := omega) only [wP, wZ, undef, seval, if_pos, if_neg, aStore, frz, AV.flat, ↓reduceIte, ne_eq, reduceCtorEq, ByteArray.size, jkR, houC, iR]))
            all_goals omega
          · have d4 : decide ((285 : Int) < (sy : Int)) = false := decide_eq_false (by omega)
            have hb := rf_bad_h nb B most q 0 o false 3
            rw [if_neg (by simp)] at hb
            obtain ⟨z, hz⟩ : ∃ z, z = sy - 257 := ⟨_, rfl⟩
            obtain rfl : sy = z + 257 := by omega
            have d2 : decide ((z : Int) + 257 = 256) = false := decide_eq_false (by omega)
            have d3 : decide ((z : Int) + 257 < 256) = false := decide_eq_false (by omega)
            have d4 : decide ((285 : Int) < (z : Int) + 257) = false := decide_eq_false (by omega)
            rw [← hz] at hx c4
            have hz28 : z ≤ 28 := by omega
            rw [leS_run hqB hz28] at hx
            have hLe := rf_length_h nb B hBl hB most q 0 hqB o z hz28
            obtain ⟨hn3, hn5, hq2B, hqq2⟩ := leS_facts hB hqB hz28
            obtain ⟨⟨n, q2, e2⟩, hs2⟩ : ∃ s, s = leS B z q 0 := ⟨_, rfl⟩
            rw [← hs2] at hLe hx hn3 hn5 hq2B hqq2
            simp only at hLe hx hn3 hn5 hq2B hqq2
            clear hs2
            have hS2 := rf_symbol_h nb B hBl hB most q2 e2 hq2B o n2 m2 d hd hd15 hKd
            by_cases c5 : e2 = 0
            · subst c5
              rw [if_pos rfl] at hx
              simp only [BR.bnd, run_bnd] at hx
              rw [syS_run] at hx
              obtain ⟨ht320, hqq, hq3B, hq30, he310⟩ := syS_facts hd (l := d) hq2B
              obtain ⟨⟨t, q3, e3⟩, hs3⟩ : ∃ s, s = syS d B q2 0 := ⟨_, rfl⟩
              rw [← hs3] at hS2 hx ht320 hqq hq3B hq30 he310
              simp only at hS2 hx ht320 hqq hq3B hq30 he310
              have ht0 : e3 ≠ 0 → t = 0 := fun h => by
                have := congrArg (fun s => s.1) hs3
                have h3 := congrArg (fun s => s.2.2) hs3
                rw [syS, if_neg (by simp)] at this h3
                split at this
                · rename_i h4; rw [if_pos h4] at h3; exact absurd h3 h
                · exact this
              clear hs3
              by_cases c6 : e3 = 0
              · subst c6
                rw [if_pos rfl] at hx
                simp only [BR.bnd] at hx
                by_cases c7 : 30 ≤ t
                · rw [show disT t = .err 3 by rw [disT, if_pos c7]] at hx
                  simp only [BT.bnd, BT.run, BR.bnd] at hx
                  subst hx
                  have d5 : decide ((29 : Int) < (t : Int)) = true := decide_eq_true (by omega)
                  have hb2 := rf_bad_h nb B most q3 0 o true 3
                  rw [if_pos ⟨rfl, rfl⟩] at hb2
                  repeat (first | refine wA ?_ | refine wB ?_ | refine wC rfl ?_ | refine wD rfl ?_ | refine wE ?_ | refine wF (by omega) ?_ | ((first | refine wG ?_ | refine wH ?_ | refine wI ?_ | refine wJ ?_ | refine wK ?_ | refine wL ?_); simp (disch := omega) only [wP, wZ, undef, seval, if_pos, if_neg, aStore, frz, AV.flat, ↓reduceIte, ne_eq, reduceCtorEq, ByteArray.size, stR]))
                  refine goC_h [(1000, 0), (1001, g)] 2000 hS1 (by simp) (by simp) ?_ ?_ ?_
                  iterate 2 (case _ => simp (disch := omega) only [wP, wZ, undef, seval, if_pos, if_neg, aStore, frz, AV.flat, ↓reduceIte, ne_eq, reduceCtorEq, ByteArray.size, stI, stR, iR, cdA])
                  repeat (first | refine wA ?_ | refine wB ?_ | refine wC rfl ?_ | refine wD rfl ?_ | refine wE ?_ | refine wF (by omega) ?_ | ((first | refine wG ?_ | refine wH ?_ | refine wI ?_ | refine wJ ?_ | refine wK ?_ | refine wL ?_); simp (disch := omega) only [wP, wZ, undef, seval, if_pos, if_neg, aStore, frz, AV.flat, ↓reduceIte, ne_eq, reduceCtorEq, ByteArray.size, stO, stR, iR, d2, d3, d4]))
                  refine goC_h [(1000, 0), (1001, g)] 3000 hb (by simp) (by simp) ?_ ?_ ?_
                  iterate 2 (case _ => simp (disch := omega) only [wP, wZ, undef, seval, if_pos, if_neg, aStore, frz, AV.flat, ↓reduceIte, ne_eq, reduceCtorEq, ByteArray.size, stI, stR, iR, cdA])
                  repeat (first | refine wA ?_ | refine wB ?_ | refine wC rfl ?_ | refine wD rfl ?_ | refine wE ?_ | refine wF (by omega) ?_ | ((first | refine wG ?_ | refine wH ?_ | refine wI ?_ | refine wJ ?_ | refine wK ?_ | refine wL ?_); simp (disch := omega) only [wP, wZ, undef, seval, if_pos, if_neg, aStore, frz, AV.flat, ↓reduceIte, ne_eq, reduceCtorEq, ByteArray.size, stO, stR, iR, d2, d3]))
                  refine goC_h [(1000, 0), (1001, g)] 4000 hLe (by simp) (by simp) ?_ ?_ ?_
                  iterate 2 (case _ => simp (disch := omega) only [wP, wZ, undef, seval, if_pos, if_neg, aStore, frz, AV.flat, ↓reduceIte, ne_eq, reduceCtorEq, ByteArray.size, stI, stR, iR, cdA])
                  repeat (first | refine wA ?_ | refine wB ?_ | refine wC rfl ?_ | refine wD rfl ?_ | refine wE ?_ | refine wF (by omega) ?_ | ((first | refine wG ?_ | refine wH ?_ | refine wI ?_ | refine wJ ?_ | refine wK ?_ | refine wL ?_); simp (disch := omega) only [wP, wZ, undef, seval, if_pos, if_neg, aStore, frz, AV.flat, ↓reduceIte, ne_eq, reduceCtorEq, ByteArray.size, stO, stR, iR]))
                  refine goC_h [(1000, 0), (1001, g)] 5000 hS2 (by simp) (by simp) ?_ ?_ ?_
                  iterate 2 (case _ => simp (disch := omega) only [wP, wZ, undef, seval, if_pos, if_neg, aStore, frz, AV.flat, ↓reduceIte, ne_eq, reduceCtorEq, ByteArray.size, stI, stR, iR, cdA])
                  repeat (first | refine wA ?_ | refine wB ?_ | refine wC rfl ?_ | refine wD rfl ?_ | refine wE ?_ | refine wF (by omega) ?_ | ((first | refine wG ?_ | refine wH ?_ | refine wI ?_ | refine wJ ?_ | refine wK ?_ | refine wL ?_); simp (disch := omega) only [wP, wZ, undef, seval, if_pos, if_neg, aStore, frz, AV.flat, ↓reduceIte, ne_eq, reduceCtorEq, ByteArray.size, stO, stR, iR, d5]))
                  refine goC_h [(1000, 0), (1001, g)] 6000 hb2 (by simp) (by simp) ?_ ?_ ?_
                  iterate 2 (case _ => simp (disch := omega) only [wP, wZ, undef, seval, if_pos, if_neg, aStore, frz, AV.flat, ↓reduceIte, ne_eq, reduceCtorEq, ByteArray.size, stI, stR, iR, cdA])
                  simp (disch := omega) only [wP, wZ, undef, seval, if_pos, if_neg, aStore, frz, AV.flat, ↓reduceIte, ne_eq, reduceCtorEq, ByteArray.size, stO, stR, iR]
                  refine SWp.le (le_mk (N := 137) (gc := 1000 * F + 3) (l := [(0, .op 1000 0 0)]) (h := [(1000, 0, .row false (stR nb B most g o.length q3 3))]) rfl ?_ ?_ ?_) ?_
                  · simp only; omega
                  iterate 2 (case _ => simp (disch := omega) only [wP, wZ, undef, seval, if_pos, if_neg, aStore, frz, AV.flat, ↓reduceIte, ne_eq, reduceCtorEq, ByteArray.size, stR, iR])
                  refine SWp.blur 1000 0 (nl := false) (cells := (stR nb B most g o.length q3 3)) (jkR 3) (by simp (disch := omega) only [wP, wZ, undef, seval, if_pos, if_neg, aStore, frz, AV.flat, ↓reduceIte, ne_eq, reduceCtorEq, ByteArray.size]) (by simp only [stR, jkR, Blur]; simp) ?_
                  refine SWp.le (le_mk (N := 137) (gc := 1000 * F + 3) (l := [(0, .op 1000 0 0)]) (h := [(1000, 0, .row false (jkR 3))]) rfl ?_ ?_ ?_) ?_
                  · exact Nat.le_refl _
                  iterate 2 (case _ => simp (disch := omega) only [wP, wZ, undef, seval, if_pos, if_neg, aStore, frz, AV.flat, ↓reduceIte, ne_eq, reduceCtorEq, ByteArray.size])
                  repeat (first | refine wA ?_ | refine wB ?_ | refine wC rfl ?_ | refine wD rfl ?_ | refine wE ?_ | refine wF (by omega) ?_ | ((first | refine wG ?_ | refine wH ?_ | refine wI ?_ | refine wJ ?_ | refine wK ?_ | refine wL ?_); simp (disch := omega) only [wP, wZ, undef, seval, if_pos, if_neg, aStore, frz, AV.flat, ↓reduceIte, ne_eq, reduceCtorEq, ByteArray.size, jkR, houC, iR]))
                  all_goals omega
                · have d5 : decide ((29 : Int) < (t : Int)) = false := decide_eq_false (by omega)
                  have hb2 := rf_bad_h nb B most q3 0 o false 3
                  rw [if_neg (by simp)] at hb2
                  try simp only [run_bnd] at hx
                  rw [diS_run hq3B (by omega)] at hx
                  have hDi := rf_distance_h nb B hBl hB most q3 0 hq3B o t (by omega)
                  obtain ⟨hk1, hk5, hq4B⟩ := diS_facts hB hq3B (x := t) (by omega)
                  have hq34 : q3 ≤ (diS B t q3 0).2.1 := diS_ge
                  obtain ⟨⟨k, q4, e4⟩, hs4⟩ : ∃ s, s = diS B t q3 0 := ⟨_, rfl⟩
                  rw [← hs4] at hDi hx hk1 hk5 hq4B hq34
                  simp only at hDi hx hk1 hk5 hq4B hq34
                  clear hs4
                  have hb3 := rf_bad_h nb B most q4 e4 o (decide ((o.length : Int) < (k : Int))) 3
                  obtain ⟨e5, he5⟩ : ∃ e5, e5 = if decide ((o.length : Int) < (k : Int)) = true ∧ e4 = 0 then 3 else e4 := ⟨_, rfl⟩
                  rw [← he5] at hb3
                  have hb4 := rf_bad_h nb B most q4 e5 o (decide ((most : Int) - (o.length : Int) < (n : Int))) 4
                  obtain ⟨e6, he6⟩ : ∃ e6, e6 = if decide ((most : Int) - (o.length : Int) < (n : Int)) = true ∧ e5 = 0 then 4 else e5 := ⟨_, rfl⟩
                  rw [← he6] at hb4
                  repeat (first | refine wA ?_ | refine wB ?_ | refine wC rfl ?_ | refine wD rfl ?_ | refine wE ?_ | refine wF (by omega) ?_ | ((first | refine wG ?_ | refine wH ?_ | refine wI ?_ | refine wJ ?_ | refine wK ?_ | refine wL ?_); simp (disch := omega) only [wP, wZ, undef, seval, if_pos, if_neg, aStore, frz, AV.flat, ↓reduceIte, ne_eq, reduceCtorEq, ByteArray.size, stR]))
                  refine goC_h [(1000, 0), (1001, g)] 2000 hS1 (by simp) (by simp) ?_ ?_ ?_
                  iterate 2 (case _ => simp (disch := omega) only [wP, wZ, undef, seval, if_pos, if_neg, aStore, frz, AV.flat, ↓reduceIte, ne_eq, reduceCtorEq, ByteArray.size, stI, stR, iR, cdA])
                  repeat (first | refine wA ?_ | refine wB ?_ | refine wC rfl ?_ | refine wD rfl ?_ | refine wE ?_ | refine wF (by omega) ?_ | ((first | refine wG ?_ | refine wH ?_ | refine wI ?_ | refine wJ ?_ | refine wK ?_ | refine wL ?_); simp (disch := omega) only [wP, wZ, undef, seval, if_pos, if_neg, aStore, frz, AV.flat, ↓reduceIte, ne_eq, reduceCtorEq, ByteArray.size, stO, stR, iR, d2, d3, d4]))
                  refine goC_h [(1000, 0), (1001, g)] 3000 hb (by simp) (by simp) ?_ ?_ ?_
                  iterate 2 (case _ => simp (disch := omega) only [wP, wZ, undef, seval, if_pos, if_neg, aStore, frz, AV.flat, ↓reduceIte, ne_eq, reduceCtorEq, ByteArray.size, stI, stR, iR, cdA])
                  repeat (first | refine wA ?_ | refine wB ?_ | refine wC rfl ?_ | refine wD rfl ?_ | refine wE ?_ | refine wF (by omega) ?_ | ((first | refine wG ?_ | refine wH ?_ | refine wI ?_ | refine wJ ?_ | refine wK ?_ | refine wL ?_); simp (disch := omega) only [wP, wZ, undef, seval, if_pos, if_neg, aStore, frz, AV.flat, ↓reduceIte, ne_eq, reduceCtorEq, ByteArray.size, stO, stR, iR, d2, d3]))
                  refine goC_h [(1000, 0), (1001, g)] 4000 hLe (by simp) (by simp) ?_ ?_ ?_
                  iterate 2 (case _ => simp (disch := omega) only [wP, wZ, undef, seval, if_pos, if_neg, aStore, frz, AV.flat, ↓reduceIte, ne_eq, reduceCtorEq, ByteArray.size, stI, stR, iR, cdA])
                  repeat (first | refine wA ?_ | refine wB ?_ | refine wC rfl ?_ | refine wD rfl ?_ | refine wE ?_ | refine wF (by omega) ?_ | ((first | refine wG ?_ | refine wH ?_ | refine wI ?_ | refine wJ ?_ | refine wK ?_ | refine wL ?_); simp (disch := omega) only [wP, wZ, undef, seval, if_pos, if_neg, aStore, frz, AV.flat, ↓reduceIte, ne_eq, reduceCtorEq, ByteArray.size, stO, stR, iR]))
                  refine goC_h [(1000, 0), (1001, g)] 5000 hS2 (by simp) (by simp) ?_ ?_ ?_
                  iterate 2 (case _ => simp (disch := omega) only [wP, wZ, undef, seval, if_pos, if_neg, aStore, frz, AV.flat, ↓reduceIte, ne_eq, reduceCtorEq, ByteArray.size, stI, stR, iR, cdA])
                  repeat (first | refine wA ?_ | refine wB ?_ | refine wC rfl ?_ | refine wD rfl ?_ | refine wE ?_ | refine wF (by omega) ?_ | ((first | refine wG ?_ | refine wH ?_ | refine wI ?_ | refine wJ ?_ | refine wK ?_ | refine wL ?_); simp (disch := omega) only [wP, wZ, undef, seval, if_pos, if_neg, aStore, frz, AV.flat, ↓reduceIte, ne_eq, reduceCtorEq, ByteArray.size, stO, stR, iR, d5]))
                  refine goC_h [(1000, 0), (1001, g)] 6000 hb2 (by simp) (by simp) ?_ ?_ ?_
                  iterate 2 (case _ => simp (disch := omega) only [wP, wZ, undef, seval, if_pos, if_neg, aStore, frz, AV.flat, ↓reduceIte, ne_eq, reduceCtorEq, ByteArray.size, stI, stR, iR, cdA])
                  repeat (first | refine wA ?_ | refine wB ?_ | refine wC rfl ?_ | refine wD rfl ?_ | refine wE ?_ | refine wF (by omega) ?_ | ((first | refine wG ?_ | refine wH ?_ | refine wI ?_ | refine wJ ?_ | refine wK ?_ | refine wL ?_); simp (disch := omega) only [wP, wZ, undef, seval, if_pos, if_neg, aStore, frz, AV.flat, ↓reduceIte, ne_eq, reduceCtorEq, ByteArray.size, stO, stR, iR]))
                  refine goC_h [(1000, 0), (1001, g)] 7000 hDi (by simp) (by simp) ?_ ?_ ?_
                  iterate 2 (case _ => simp (disch := omega) only [wP, wZ, undef, seval, if_pos, if_neg, aStore, frz, AV.flat, ↓reduceIte, ne_eq, reduceCtorEq, ByteArray.size, stI, stR, iR, cdA])
                  repeat (first | refine wA ?_ | refine wB ?_ | refine wC rfl ?_ | refine wD rfl ?_ | refine wE ?_ | refine wF (by omega) ?_ | ((first | refine wG ?_ | refine wH ?_ | refine wI ?_ | refine wJ ?_ | refine wK ?_ | refine wL ?_); simp (disch := omega) only [wP, wZ, undef, seval, if_pos, if_neg, aStore, frz, AV.flat, ↓reduceIte, ne_eq, reduceCtorEq, ByteArray.size, stO, stR, iR]))
                  refine goC_h [(1000, 0), (1001, g)] 8000 hb3 (by simp) (by simp) ?_ ?_ ?_
                  iterate 2 (case _ => simp (disch := omega) only [wP, wZ, undef, seval, if_pos, if_neg, aStore, frz, AV.flat, ↓reduceIte, ne_eq, reduceCtorEq, ByteArray.size, stI, stR, iR, cdA])
                  repeat (first | refine wA ?_ | refine wB ?_ | refine wC rfl ?_ | refine wD rfl ?_ | refine wE ?_ | refine wF (by omega) ?_ | ((first | refine wG ?_ | refine wH ?_ | refine wI ?_ | refine wJ ?_ | refine wK ?_ | refine wL ?_); simp (disch := omega) only [wP, wZ, undef, seval, if_pos, if_neg, aStore, frz, AV.flat, ↓reduceIte, ne_eq, reduceCtorEq, ByteArray.size, stO, stR, iR]))
                  refine goC_h [(1000, 0), (1001, g)] 9000 hb4 (by simp) (by simp) ?_ ?_ ?_
                  iterate 2 (case _ => simp (disch := omega) only [wP, wZ, undef, seval, if_pos, if_neg, aStore, frz, AV.flat, ↓reduceIte, ne_eq, reduceCtorEq, ByteArray.size, stI, stR, iR, cdA])
                  repeat (first | refine wA ?_ | refine wB ?_ | refine wC rfl ?_ | refine wD rfl ?_ | refine wE ?_ | refine wF (by omega) ?_ | ((first | refine wG ?_ | refine wH ?_ | refine wI ?_ | refine wJ ?_ | refine wK ?_ | refine wL ?_); simp (disch := omega) only [wP, wZ, undef, seval, if_pos, if_neg, aStore, frz, AV.flat, ↓reduceIte, ne_eq, reduceCtorEq, ByteArray.size, stO, stR, iR]))
                  refine SWp.loop (α := Nat × Nat × Nat) (fun x => mk 137 x.2.2 [(0, .op 1000 0 0), (4, .op 4 1 0), (5, .op 5 2 0), (7, int (n : Int)), (9, int (k : Int)), (10, int (x.1 : Int))] [(1000, 0, .row false (stR nb B most x.2.1 (o.length + x.1) q4 e6)), (1001, x.2.1, .row (nl0 (o.length + x.1)) ((cpy o k x.1).map u8)), (4, 1, .row false [.sl n1 none (l.map nA), .sl m1 none ((codesL l).map nA)]), (5, 2, .row false [.sl n2 none (d.map nA), .sl m2 none ((codesL d).map nA)])])
                    (fun x => x.1 ≤ n ∧ x.2.2 ≤ c + 20 + x.1 ∧ (x.1 = 0 ∨ e6 = 0)) (fun x => n - x.1) (0, g, c + 16) ⟨Nat.zero_le _, by simp only; omega, .inl rfl⟩ (le_mk rfl ?_ ?_ ?_) ?_
                  · simp only; omega
                  iterate 2 (case _ => simp (disch := omega) only [wP, wZ, undef, seval, if_pos, if_neg, aStore, frz, AV.flat, ↓reduceIte, ne_eq, reduceCtorEq, ByteArray.size, stR, cpy, iR])
                  rintro ⟨x, g2, c2⟩ ⟨hxn, hc2, hx0⟩ -
                  simp only at hxn hc2 hx0
                  have hn258 : e6 = 0 → o.length + n ≤ most ∧ k ≤ o.length := fun h => by
                    rw [he6] at h
                    split at h
                    · omega
                    · rename_i h7
                      have h8 := h
                      rw [he5] at h
                      split at h
                      · omega
                      · rename_i h9
                        simp only [decide_eq_true_eq, not_and] at h7 h9
                        constructor
                        · have : ¬ ((most : Int) - (o.length : Int) < (n : Int)) := fun q => h7 q h8
                          omega
                        · have : ¬ ((o.length : Int) < (k : Int)) := fun q => h9 q h
                          omega
                  by_cases c8 : e6 = 0
                  · obtain ⟨hmn, hko⟩ := hn258 c8
                    have hcl := length_cpy (k := k) (n := x) (out := o)
                    have hcs := cpy_snoc (k := k) (n := x) (out := o)
                    obtain ⟨y, hy⟩ : ∃ y, y = cpy o k x := ⟨_, rfl⟩
                    rw [← hy] at hcl hcs ⊢
                    rw [hcl] at hcs
                    subst c8
                    by_cases c9 : x < n
                    · have d9 : decide ((x : Int) < (n : Int)) = true := decide_eq_true (by omega)
                      obtain ⟨w, hw⟩ : ∃ w, w = o.length + x - k := ⟨_, rfl⟩
                      have ew : (o.length : Int) + (x : Int) - (k : Int) = (w : Int) := by omega
                      rw [← hw] at hcs
                      obtain ⟨b8, hb8⟩ : ∃ b8, b8 = y.getD w 0 := ⟨_, rfl⟩
                      rw [← hb8] at hcs
                      have hn0 : nl0 (o.length + (x + 1)) = false := nl0_pos (by omega)
                      repeat (first | refine wA ?_ | refine wB ?_ | refine wC rfl ?_ | refine wD rfl ?_ | refine wE ?_ | refine wF (by omega) ?_ | ((first | refine wG ?_ | refine wH ?_ | refine wI ?_ | refine wJ ?_ | refine wK ?_ | refine wL ?_); simp (disch := omega) only [wP, wZ, undef, seval, if_pos, if_neg, aStore, frz, AV.flat, ↓reduceIte, ne_eq, reduceCtorEq, ByteArray.size, stR, iR, d9, hcl, ew, ← hb8]))
                      refine At.of (x + 1, c2, c2 + 1) ⟨by simp only; omega, by simp only; omega, .inr (by simp)⟩ (by simp only; omega) rfl rfl (Nat.le_refl _) ?_ ?_
                      iterate 2 (case _ => simp (disch := omega) only [wP, wZ, undef, seval, if_pos, if_neg, aStore, frz, AV.flat, ↓reduceIte, ne_eq, reduceCtorEq, ByteArray.size, stR, hcs, hn0, Nat.add_assoc, iR])
                    · have d9 : decide ((x : Int) < (n : Int)) = false := decide_eq_false (by omega)
                      obtain rfl : x = n := by omega
                      have he50 : e5 = 0 := by
                        by_cases q : e5 = 0
                        · exact q
                        · rw [if_neg (fun h => q h.2)] at he6; omega
                      have he40 : e4 = 0 := by
                        by_cases q : e4 = 0
                        · exact q
                        · rw [if_neg (fun h => q h.2)] at he5; omega
                      rw [if_pos he40] at hx
                      simp only [BR.bnd] at hx
                      rw [if_neg (by omega), if_neg (by omega)] at hx
                      simp only [BT.run, BR.bnd] at hx
                      rw [← hy] at hx
                      repeat (first | refine wA ?_ | refine wB ?_ | refine wC rfl ?_ | refine wD rfl ?_ | refine wE ?_ | refine wF (by omega) ?_ | ((first | refine wG ?_ | refine wH ?_ | refine wI ?_ | refine wJ ?_ | refine wK ?_ | refine wL ?_); simp (disch := omega) only [wP, wZ, undef, seval, if_pos, if_neg, aStore, frz, AV.flat, ↓reduceIte, ne_eq, reduceCtorEq, ByteArray.size, stR, iR, d9]))
                      refine At.of (f, y, q4, g2, c2, 0) ⟨by simp only; omega, .inl ⟨rfl, hx, hq4B, by simp only; omega, by simp only; omega⟩⟩ (by simp <;> omega) rfl rfl (Nat.le_refl _) ?_ ?_
                      iterate 2 (case _ => simp (disch := omega) only [wP, wZ, undef, seval, if_pos, if_neg, aStore, frz, AV.flat, ↓reduceIte, ne_eq, reduceCtorEq, ByteArray.size, stR, hcl, iR])
                  · have d8 : decide ((e6 : Int) = 0) = false := decide_eq_false (by omega)
                    obtain rfl : x = 0 := by omega
                    have d9 : decide ((0 : Int) < (n : Int)) = true := decide_eq_true (by omega)
                    have hrn : r = .no e6 := by
                      rw [← hx]
                      by_cases q : e4 = 0
                      · rw [if_pos q]
                        simp only [BR.bnd]
                        by_cases q2 : o.length < k
                        · rw [if_pos q2]
                          have h5 : e5 = 3 := by rw [he5, if_pos ⟨by simpa using q2, q⟩]
                          have h6 : e6 = 3 := by rw [he6, if_neg (fun h => by omega), h5]
                          rw [h6]; rfl
                        · rw [if_neg q2]
                          have h5 : e5 = 0 := by rw [he5, if_neg (fun h => q2 (by simpa using h.1)), q]
                          by_cases q3 : most < o.length + n
                          · rw [if_pos q3]
                            have h6 : e6 = 4 := by rw [he6, if_pos ⟨decide_eq_true (by omega), h5⟩]
                            rw [h6]; rfl
                          · exfalso
                            have h6 : e6 = 0 := by rw [he6, if_neg (fun h => q3 (by have := of_decide_eq_true h.1; omega)), h5]
                            exact c8 h6
                      · rw [if_neg q]
                        have h5 : e5 = e4 := by rw [he5, if_neg (fun h => q h.2)]
                        have h6 : e6 = e4 := by rw [he6, if_neg (fun h => q (by omega)), h5]
                        rw [h6]
                    repeat (first | refine wA ?_ | refine wB ?_ | refine wC rfl ?_ | refine wD rfl ?_ | refine wE ?_ | refine wF (by omega) ?_ | ((first | refine wG ?_ | refine wH ?_ | refine wI ?_ | refine wJ ?_ | refine wK ?_ | refine wL ?_); simp (disch := omega) only [wP, wZ, undef, seval, if_pos, if_neg, aStore, frz, AV.flat, ↓reduceIte, ne_eq, reduceCtorEq, ByteArray.size, stR, iR, d9, d8]))
                    refine At.of (f, o, q4, g2, c2, e6) ⟨by simp only; omega, .inr ⟨c8, hrn⟩⟩ ?_ rfl rfl (Nat.le_refl _) ?_ ?_
                    · simp only; rw [if_neg c8]; show f + 0 < f + 1 + 1; omega
                    iterate 2 (case _ => simp (disch := omega) only [wP, wZ, undef, seval, if_pos, if_neg, aStore, frz, AV.flat, ↓reduceIte, ne_eq, reduceCtorEq, ByteArray.size, stR, cpy, iR])
              · rw [if_neg c6] at hx
                simp only [BR.bnd] at hx
                subst hx
                obtain rfl : t = 0 := ht0 c6
                have de : decide ((e3 : Int) = 0) = false := decide_eq_false (by omega)
                have hb2 := rf_bad_h nb B most q3 e3 o false 3
                rw [if_neg (by simp)] at hb2
                repeat (first | refine wA ?_ | refine wB ?_ | refine wC rfl ?_ | refine wD rfl ?_ | refine wE ?_ | refine wF (by omega) ?_ | ((first | refine wG ?_ | refine wH ?_ | refine wI ?_ | refine wJ ?_ | refine wK ?_ | refine wL ?_); simp (disch := omega) only [wP, wZ, undef, seval, if_pos, if_neg, aStore, frz, AV.flat, ↓reduceIte, ne_eq, reduceCtorEq, ByteArray.size, stR]))
                refine goC_h [(1000, 0), (1001, g)] 2000 hS1 (by simp) (by simp) ?_ ?_ ?_
                iterate 2 (case _ => simp (disch := omega) only [wP, wZ, undef, seval, if_pos, if_neg, aStore, frz, AV.flat, ↓reduceIte, ne_eq, reduceCtorEq, ByteArray.size, stI, stR, iR, cdA])
                repeat (first | refine wA ?_ | refine wB ?_ | refine wC rfl ?_ | refine wD rfl ?_ | refine wE ?_ | refine wF (by omega) ?_ | ((first | refine wG ?_ | refine wH ?_ | refine wI ?_ | refine wJ ?_ | refine wK ?_ | refine wL ?_); simp (disch := omega) only [wP, wZ, undef, seval, if_pos, if_neg, aStore, frz, AV.flat, ↓reduceIte, ne_eq, reduceCtorEq, ByteArray.size, stO, stR, iR, d2, d3, d4]))
                refine goC_h [(1000, 0), (1001, g)] 3000 hb (by simp) (by simp) ?_ ?_ ?_
                iterate 2 (case _ => simp (disch := omega) only [wP, wZ, undef, seval, if_pos, if_neg, aStore, frz, AV.flat, ↓reduceIte, ne_eq, reduceCtorEq, ByteArray.size, stI, stR, iR, cdA])
                repeat (first | refine wA ?_ | refine wB ?_ | refine wC rfl ?_ | refine wD rfl ?_ | refine wE ?_ | refine wF (by omega) ?_ | ((first | refine wG ?_ | refine wH ?_ | refine wI ?_ | refine wJ ?_ | refine wK ?_ | refine wL ?_); simp (disch := omega) only [wP, wZ, undef, seval, if_pos, if_neg, aStore, frz, AV.flat, ↓reduceIte, ne_eq, reduceCtorEq, ByteArray.size, stO, stR, iR, d2, d3]))
                refine goC_h [(1000, 0), (1001, g)] 4000 hLe (by simp) (by simp) ?_ ?_ ?_
                iterate 2 (case _ => simp (disch := omega) only [wP, wZ, undef, seval, if_pos, if_neg, aStore, frz, AV.flat, ↓reduceIte, ne_eq, reduceCtorEq, ByteArray.size, stI, stR, iR, cdA])
                repeat (first | refine wA ?_ | refine wB ?_ | refine wC rfl ?_ | refine wD rfl ?_ | refine wE ?_ | refine wF (by omega) ?_ | ((first | refine wG ?_ | refine wH ?_ | refine wI ?_ | refine wJ ?_ | refine wK ?_ | refine wL ?_); simp (disch := omega) only [wP, wZ, undef, seval, if_pos, if_neg, aStore, frz, AV.flat, ↓reduceIte, ne_eq, reduceCtorEq, ByteArray.size, stO, stR, iR]))
                refine goC_h [(1000, 0), (1001, g)] 5000 hS2 (by simp) (by simp) ?_ ?_ ?_
                iterate 2 (case _ => simp (disch := omega) only [wP, wZ, undef, seval, if_pos, if_neg, aStore, frz, AV.flat, ↓reduceIte, ne_eq, reduceCtorEq, ByteArray.size, stI, stR, iR, cdA])
                repeat (first | refine wA ?_ | refine wB ?_ | refine wC rfl ?_ | refine wD rfl ?_ | refine wE ?_ | refine wF (by omega) ?_ | ((first | refine wG ?_ | refine wH ?_ | refine wI ?_ | refine wJ ?_ | refine wK ?_ | refine wL ?_); simp (disch := omega) only [wP, wZ, undef, seval, if_pos, if_neg, aStore, frz, AV.flat, ↓reduceIte, ne_eq, reduceCtorEq, ByteArray.size, stO, stR, iR]))
                refine goC_h [(1000, 0), (1001, g)] 6000 hb2 (by simp) (by simp) ?_ ?_ ?_
                iterate 2 (case _ => simp (disch := omega) only [wP, wZ, undef, seval, if_pos, if_neg, aStore, frz, AV.flat, ↓reduceIte, ne_eq, reduceCtorEq, ByteArray.size, stI, stR, iR, cdA])
                simp (disch := omega) only [wP, wZ, undef, seval, if_pos, if_neg, aStore, frz, AV.flat, ↓reduceIte, ne_eq, reduceCtorEq, ByteArray.size, stO, stR, iR]
                refine SWp.le (le_mk (N := 137) (gc := 1000 * F + 3) (l := [(0, .op 1000 0 0)]) (h := [(1000, 0, .row false (stR nb B most g o.length q3 e3))]) rfl ?_ ?_ ?_) ?_
                · simp only; omega
                iterate 2 (case _ => simp (disch := omega) only [wP, wZ, undef, seval, if_pos, if_neg, aStore, frz, AV.flat, ↓reduceIte, ne_eq, reduceCtorEq, ByteArray.size, stR, iR])
                refine SWp.blur 1000 0 (nl := false) (cells := (stR nb B most g o.length q3 e3)) (jkR e3) (by simp (disch := omega) only [wP, wZ, undef, seval, if_pos, if_neg, aStore, frz, AV.flat, ↓reduceIte, ne_eq, reduceCtorEq, ByteArray.size]) (by simp only [stR, jkR, Blur]; simp) ?_
                refine SWp.le (le_mk (N := 137) (gc := 1000 * F + 3) (l := [(0, .op 1000 0 0)]) (h := [(1000, 0, .row false (jkR e3))]) rfl ?_ ?_ ?_) ?_
                · exact Nat.le_refl _
                iterate 2 (case _ => simp (disch := omega) only [wP, wZ, undef, seval, if_pos, if_neg, aStore, frz, AV.flat, ↓reduceIte, ne_eq, reduceCtorEq, ByteArray.size])
                repeat (first | refine wA ?_ | refine wB ?_ | refine wC rfl ?_ | refine wD rfl ?_ | refine wE ?_ | refine wF (by omega) ?_ | ((first | refine wG ?_ | refine wH ?_ | refine wI ?_ | refine wJ ?_ | refine wK ?_ | refine wL ?_); simp (disch := omega) only [wP, wZ, undef, seval, if_pos, if_neg, aStore, frz, AV.flat, ↓reduceIte, ne_eq, reduceCtorEq, ByteArray.size, jkR, houC, iR, de]))
                all_goals omega
            · rw [if_neg c5] at hx
              simp only [BR.bnd] at hx
              subst hx
              have de : decide ((e2 : Int) = 0) = false := decide_eq_false (by omega)
              rw [show syS d B q2 e2 = (0, q2, e2) by rw [syS, if_pos c5]] at hS2
              have hb2 := rf_bad_h nb B most q2 e2 o false 3
              rw [if_neg (by simp)] at hb2
              repeat (first | refine wA ?_ | refine wB ?_ | refine wC rfl ?_ | refine wD rfl ?_ | refine wE ?_ | refine wF (by omega) ?_ | ((first | refine wG ?_ | refine wH ?_ | refine wI ?_ | refine wJ ?_ | refine wK ?_ | refine wL ?_); simp (disch := omega) only [wP, wZ, undef, seval, if_pos, if_neg, aStore, frz, AV.flat, ↓reduceIte, ne_eq, reduceCtorEq, ByteArray.size, stR]))
              refine goC_h [(1000, 0), (1001, g)] 2000 hS1 (by simp) (by simp) ?_ ?_ ?_
              iterate 2 (case _ => simp (disch := omega) only [wP, wZ, undef, seval, if_pos, if_neg, aStore, frz, AV.flat, ↓reduceIte, ne_eq, reduceCtorEq, ByteArray.size, stI, stR, iR, cdA])
              repeat (first | refine wA ?_ | refine wB ?_ | refine wC rfl ?_ | refine wD rfl ?_ | refine wE ?_ | refine wF (by omega) ?_ | ((first | refine wG ?_ | refine wH ?_ | refine wI ?_ | refine wJ ?_ | refine wK ?_ | refine wL ?_); simp (disch := omega) only [wP, wZ, undef, seval, if_pos, if_neg, aStore, frz, AV.flat, ↓reduceIte, ne_eq, reduceCtorEq, ByteArray.size, stO, stR, iR, d2, d3, d4]))
              refine goC_h [(1000, 0), (1001, g)] 3000 hb (by simp) (by simp) ?_ ?_ ?_
              iterate 2 (case _ => simp (disch := omega) only [wP, wZ, undef, seval, if_pos, if_neg, aStore, frz, AV.flat, ↓reduceIte, ne_eq, reduceCtorEq, ByteArray.size, stI, stR, iR, cdA])
              repeat (first | refine wA ?_ | refine wB ?_ | refine wC rfl ?_ | refine wD rfl ?_ | refine wE ?_ | refine wF (by omega) ?_ | ((first | refine wG ?_ | refine wH ?_ | refine wI ?_ | refine wJ ?_ | refine wK ?_ | refine wL ?_); simp (disch := omega) only [wP, wZ, undef, seval, if_pos, if_neg, aStore, frz, AV.flat, ↓reduceIte, ne_eq, reduceCtorEq, ByteArray.size, stO, stR, iR, d2, d3]))
              refine goC_h [(1000, 0), (1001, g)] 4000 hLe (by simp) (by simp) ?_ ?_ ?_
              iterate 2 (case _ => simp (disch := omega) only [wP, wZ, undef, seval, if_pos, if_neg, aStore, frz, AV.flat, ↓reduceIte, ne_eq, reduceCtorEq, ByteArray.size, stI, stR, iR, cdA])
              repeat (first | refine wA ?_ | refine wB ?_ | refine wC rfl ?_ | refine wD rfl ?_ | refine wE ?_ | refine wF (by omega) ?_ | ((first | refine wG ?_ | refine wH ?_ | refine wI ?_ | refine wJ ?_ | refine wK ?_ | refine wL ?_); simp (disch := omega) only [wP, wZ, undef, seval, if_pos, if_neg, aStore, frz, AV.flat, ↓reduceIte, ne_eq, reduceCtorEq, ByteArray.size, stO, stR, iR]))
              refine goC_h [(1000, 0), (1001, g)] 5000 hS2 (by simp) (by simp) ?_ ?_ ?_
              iterate 2 (case _ => simp (disch := omega) only [wP, wZ, undef, seval, if_pos, if_neg, aStore, frz, AV.flat, ↓reduceIte, ne_eq, reduceCtorEq, ByteArray.size, stI, stR, iR, cdA])
              repeat (first | refine wA ?_ | refine wB ?_ | refine wC rfl ?_ | refine wD rfl ?_ | refine wE ?_ | refine wF (by omega) ?_ | ((first | refine wG ?_ | refine wH ?_ | refine wI ?_ | refine wJ ?_ | refine wK ?_ | refine wL ?_); simp (disch := omega) only [wP, wZ, undef, seval, if_pos, if_neg, aStore, frz, AV.flat, ↓reduceIte, ne_eq, reduceCtorEq, ByteArray.size, stO, stR, iR]))
              refine goC_h [(1000, 0), (1001, g)] 6000 hb2 (by simp) (by simp) ?_ ?_ ?_
              iterate 2 (case _ => simp (disch := omega) only [wP, wZ, undef, seval, if_pos, if_neg, aStore, frz, AV.flat, ↓reduceIte, ne_eq, reduceCtorEq, ByteArray.size, stI, stR, iR, cdA])
              simp (disch := omega) only [wP, wZ, undef, seval, if_pos, if_neg, aStore, frz, AV.flat, ↓reduceIte, ne_eq, reduceCtorEq, ByteArray.size, stO, stR, iR]
              refine SWp.le (le_mk (N := 137) (gc := 1000 * F + 3) (l := [(0, .op 1000 0 0)]) (h := [(1000, 0, .row false (stR nb B most g o.length q2 e2))]) rfl ?_ ?_ ?_) ?_
              · simp only; omega
              iterate 2 (case _ => simp (disch := omega) only [wP, wZ, undef, seval, if_pos, if_neg, aStore, frz, AV.flat, ↓reduceIte, ne_eq, reduceCtorEq, ByteArray.size, stR, iR])
              refine SWp.blur 1000 0 (nl := false) (cells := (stR nb B most g o.length q2 e2)) (jkR e2) (by simp (disch := omega) only [wP, wZ, undef, seval, if_pos, if_neg, aStore, frz, AV.flat, ↓reduceIte, ne_eq, reduceCtorEq, ByteArray.size]) (by simp only [stR, jkR, Blur]; simp) ?_
              refine SWp.le (le_mk (N := 137) (gc := 1000 * F + 3) (l := [(0, .op 1000 0 0)]) (h := [(1000, 0, .row false (jkR e2))]) rfl ?_ ?_ ?_) ?_
              · exact Nat.le_refl _
              iterate 2 (case _ => simp (disch := omega) only [wP, wZ, undef, seval, if_pos, if_neg, aStore, frz, AV.flat, ↓reduceIte, ne_eq, reduceCtorEq, ByteArray.size])
              repeat (first | refine wA ?_ | refine wB ?_ | refine wC rfl ?_ | refine wD rfl ?_ | refine wE ?_ | refine wF (by omega) ?_ | ((first | refine wG ?_ | refine wH ?_ | refine wI ?_ | refine wJ ?_ | refine wK ?_ | refine wL ?_); simp (disch := omega) only [wP, wZ, undef, seval, if_pos, if_neg, aStore, frz, AV.flat, ↓reduceIte, ne_eq, reduceCtorEq, ByteArray.size, jkR, houC, iR, de]))
              all_goals omega
    · rw [if_neg c1] at hx
      simp only [BR.bnd] at hx
      subst hx
      have de : decide ((e1 : Int) = 0) = false := decide_eq_false (by omega)
      repeat (first | refine wA ?_ | refine wB ?_ | refine wC rfl ?_ | refine wD rfl ?_ | refine wE ?_ | refine wF (by omega) ?_ | ((first | refine wG ?_ | refine wH ?_ | refine wI ?_ | refine wJ ?_ | refine wK ?_ | refine wL ?_); simp (disch := omega) only [wP, wZ, undef, seval, if_pos, if_neg, aStore, frz, AV.flat, ↓reduceIte, ne_eq, reduceCtorEq, ByteArray.size, stR]))
      refine goC_h [(1000, 0), (1001, g)] 2000 hS1 (by simp) (by simp) ?_ ?_ ?_
      iterate 2 (case _ => simp (disch := omega) only [wP, wZ, undef, seval, if_pos, if_neg, aStore, frz, AV.flat, ↓reduceIte, ne_eq, reduceCtorEq, ByteArray.size, stI, stR, iR, cdA])
      iterate 1 (first | refine wA ?_ | refine wB ?_ | refine wC rfl ?_ | refine wD rfl ?_ | refine wE ?_ | refine wF (by omega) ?_ | ((first | refine wG ?_ | refine wH ?_ | refine wI ?_ | refine wJ ?_ | refine wK ?_ | refine wL ?_); simp (disch := omega) only [wP, wZ, undef, seval, if_pos, if_neg, aStore, frz, AV.flat, ↓reduceIte, ne_eq, reduceCtorEq, ByteArray.size, stO, stR, iR]))
      refine SWp.le (le_mk (N := 137) (gc := 1000 * F + 3) (l := [(0, .op 1000 0 0), (6, int (sy : Int))]) (h := [(1000, 0, .row false (stR nb B most g o.length q e1))]) rfl ?_ ?_ ?_) ?_
      · simp only; omega
      iterate 2 (case _ => simp (disch := omega) only [wP, wZ, undef, seval, if_pos, if_neg, aStore, frz, AV.flat, ↓reduceIte, ne_eq, reduceCtorEq, ByteArray.size, stR, iR])
      refine SWp.blur 1000 0 (nl := false) (cells := (stR nb B most g o.length q e1)) (jkR e1) (by simp (disch := omega) only [wP, wZ, undef, seval, if_pos, if_neg, aStore, frz, AV.flat, ↓reduceIte, ne_eq, reduceCtorEq, ByteArray.size]) (by simp only [stR, jkR, Blur]; simp) ?_
      refine SWp.le (le_mk (N := 137) (gc := 1000 * F + 3) (l := [(0, .op 1000 0 0), (6, int (sy : Int))]) (h := [(1000, 0, .row false (jkR e1))]) rfl ?_ ?_ ?_) ?_
      · exact Nat.le_refl _
      iterate 2 (case _ => simp (disch := omega) only [wP, wZ, undef, seval, if_pos, if_neg, aStore, frz, AV.flat, ↓reduceIte, ne_eq, reduceCtorEq, ByteArray.size])
      repeat (first | refine wA ?_ | refine wB ?_ | refine wC rfl ?_ | refine wD rfl ?_ | refine wE ?_ | refine wF (by omega) ?_ | ((first | refine wG ?_ | refine wH ?_ | refine wI ?_ | refine wJ ?_ | refine wK ?_ | refine wL ?_); simp (disch := omega) only [wP, wZ, undef, seval, if_pos, if_neg, aStore, frz, AV.flat, ↓reduceIte, ne_eq, reduceCtorEq, ByteArray.size, jkR, houC, iR, de]))
      all_goals omega
  · have de : decide ((e : Int) = 0) = false := decide_eq_false (by omega)
    refine SWp.le (le_mk (N := 137) (gc := 1000 * F + 3) (l := [(0, .op 1000 0 0)]) (h := [(1000, 0, .row false (stR nb B most g o.length p e))]) rfl ?_ ?_ ?_) ?_
    · show c ≤ 1000 * F + 3; omega
    iterate 2 (case _ => simp (disch := omega) only [wP, wZ, undef, seval, if_pos, if_neg, aStore, frz, AV.flat, ↓reduceIte, ne_eq, reduceCtorEq, ByteArray.size, stR, iR])
    refine SWp.blur 1000 0 (nl := false) (cells := (stR nb B most g o.length p e)) (jkR e) (by simp (disch := omega) only [wP, wZ, undef, seval, if_pos, if_neg, aStore, frz, AV.flat, ↓reduceIte, ne_eq, reduceCtorEq, ByteArray.size]) (by simp only [stR, jkR, Blur]; simp) ?_
    refine SWp.le (le_mk (N := 137) (gc := 1000 * F + 3) (l := [(0, .op 1000 0 0)]) (h := [(1000, 0, .row false (jkR e))]) rfl ?_ ?_ ?_) ?_
    · exact Nat.le_refl _
    iterate 2 (case _ => simp (disch := omega) only [wP, wZ, undef, seval, if_pos, if_neg, aStore, frz, AV.flat, ↓reduceIte, ne_eq, reduceCtorEq, ByteArray.size])
    repeat (first | refine wA ?_ | refine wB ?_ | refine wC rfl ?_ | refine wD rfl ?_ | refine wE ?_ | refine wF (by omega) ?_ | ((first | refine wG ?_ | refine wH ?_ | refine wI ?_ | refine wJ ?_ | refine wK ?_ | refine wL ?_); simp (disch := omega) only [wP, wZ, undef, seval, if_pos, if_neg, aStore, frz, AV.flat, ↓reduceIte, ne_eq, reduceCtorEq, ByteArray.size, jkR, houC, iR, de]))
    all_goals omega
end Go.Proofs.YtokdmakljdhjiaaDoor.Aw
