/- Contracts: (*unpacker).toldCodes. -/
import Derived.Test.YtokdmakljdhjiaaDoorInfI
import Derived.Test.YtokdmakljdhjiaaDoorRfiE
import Derived.Test.YtokdmakljdhjiaaDoorRfiF
namespace Go.Proofs.YtokdmakljdhjiaaDoor.Aw
open Go
set_option linter.unusedSimpArgs false
set_option linter.unusedVariables false

theorem lsT_ok {b : List UInt8} {th : List Nat} {n : Nat} (hth : th.length = 19) : ∀ (f : Nat) (l : List Nat) (i : Nat) (ls : List Nat) (j : Nat), l.length ≤ n → (∀ y ∈ l, y ≤ 15) → i ≤ 8 * b.length → (lsT th n f l).run (bitsL b) i = .ok ls j → ls.length = n ∧ ∀ y ∈ ls, y ≤ 15 := by
  intro f
  induction f with
  | zero => intro l i ls j _ _ _ h; simp [lsT, BT.run] at h
  | succ f ih =>
    intro l i ls j hl h15 hi h
    rw [lsT] at h
    by_cases c : n ≤ l.length
    · rw [if_pos c] at h
      simp only [BT.run, BR.ok.injEq] at h
      obtain ⟨rfl, rfl⟩ := h
      exact ⟨by omega, h15⟩
    · rw [if_neg c, run_bnd] at h
      have hrn := run_nxt (l := th) (B := bitsL b) (i := i)
      have hsy := nxt_sym (l := th) (B := (bitsL b).drop i) 15 0 0
      cases h1 : (nxtT th 15 0 0).run (bitsL b) i with
      | no e => rw [h1] at h; cases h
      | ok s k =>
        rw [h1] at h
        have hk := (run_ok h1).2 (by rw [length_bitsL]; exact hi)
        rw [length_bitsL] at hk
        rw [h1, nxtR] at hrn
        split at hrn
        · rename_i e0
          simp only [BR.ok.injEq] at hrn
          have hs := (hsy e0).1
          rw [← hrn.1, hth] at hs
          simp only [BR.bnd] at h
          by_cases c2 : s = 16 ∧ l = []
          · rw [if_pos c2] at h; simp [BT.run] at h
          · rw [if_neg c2, run_bnd] at h
            cases h2 : (plusT (lsN s) (lsB s)).run (bitsL b) k with
            | no e => rw [h2] at h; cases h
            | ok t k2 =>
              rw [h2] at h
              have hk2 := (run_ok h2).2 (by rw [length_bitsL]; exact hk)
              rw [length_bitsL] at hk2
              simp only [BR.bnd] at h
              by_cases c3 : n < l.length + t
              · rw [if_pos c3] at h; simp [BT.run] at h
              · rw [if_neg c3] at h
                refine ih _ _ _ _ (by rw [List.length_append, List.length_replicate]; omega) ?_ hk2 h
                intro y hy
                rcases List.mem_append.1 hy with hy | hy
                · exact h15 y hy
                · rw [(List.mem_replicate.1 hy).2]
                  unfold lsV
                  split
                  · rename_i e16
                    have hne : l ≠ [] := fun h => c2 ⟨e16, h⟩
                    have h0 : l.length - 1 < l.length := by have := List.length_pos_iff.2 hne; omega
                    have : l.getD (l.length - 1) 0 = l[l.length - 1] := by simp [List.getD, List.getElem?_eq_getElem h0]
                    rw [this]; exact h15 _ (List.getElem_mem h0)
                  · split
                    · omega
                    · omega
        · cases hrn
theorem tlrT_ok {b : List UInt8} {n i j : Nat} {th : List Nat} (hi : i ≤ 8 * b.length) (h : (tlrT n).run (bitsL b) i = .ok th j) : th.length = 19 ∧ fulN th = true := by
  rw [tlrT, run_bnd] at h
  cases h1 : (telT n 0 (List.replicate 19 0)).run (bitsL b) i with
  | no e => rw [h1] at h; cases h
  | ok t k =>
    rw [h1] at h
    simp only [BR.bnd] at h
    have h2 := telT_ok n 0 i k _ t (by simp) (by simp) hi h1
    by_cases c : fulN t = true
    · rw [if_pos c] at h
      simp only [BT.run, BR.ok.injEq] at h
      rw [← h.1]
      exact ⟨h2.1, c⟩
    · rw [if_neg c] at h; simp [BT.run] at h

theorem codN_ok {l d : List Nat} (h : codN l d = true) : l.length ≤ 320 ∧ kraft l ≤ 32768 ∧ kraft d ≤ 32768 := by
  simp only [codN, Bool.and_eq_true] at h
  have h2 := h.1.2
  simp only [fulN, decide_eq_true_eq] at h2
  exact ⟨h2.1, by omega, fewN_kraft h.2⟩
theorem tolT_ok {b : List UInt8} {i j : Nat} {p : List Nat × List Nat} (hi : i ≤ 8 * b.length) (h : tolT.run (bitsL b) i = .ok p j) : p.1.length ≤ 320 ∧ kraft p.1 ≤ 32768 ∧ p.2.length ≤ 320 ∧ kraft p.2 ≤ 32768 := by
  rw [tolT, run_bnd, run_num hi] at h
  split at h
  · rename_i c1
    simp only [BR.bnd] at h
    split at h
    · simp [BT.run] at h
    · rename_i c2
      rw [run_bnd] at h
      cases h1 : (tlrT (numAt b i 14 / 1024 + 4)).run (bitsL b) (i + 14) with
      | no e => rw [h1] at h; cases h
      | ok th k =>
        rw [h1] at h
        have hk := (run_ok h1).2 (by rw [length_bitsL]; exact c1)
        rw [length_bitsL] at hk
        simp only [BR.bnd] at h
        rw [run_bnd] at h
        cases h2 : (lsT th (numAt b i 14 % 32 + 257 + (numAt b i 14 / 32 % 32 + 1)) 400 []).run (bitsL b) k with
        | no e => rw [h2] at h; cases h
        | ok ls k2 =>
          rw [h2] at h
          have hls := lsT_ok (tlrT_ok c1 h1).1 400 [] k ls k2 (Nat.zero_le _) (by simp) hk h2
          simp only [BR.bnd] at h
          split at h
          · rename_i c3
            simp only [BT.run, BR.ok.injEq] at h
            obtain ⟨rfl, -⟩ := h
            have := codN_ok c3
            refine ⟨this.1, this.2.1, ?_, this.2.2⟩
            rw [List.length_drop]; omega
          · simp [BT.run] at h
  · cases h

set_option maxHeartbeats 1000000 in
set_option maxRecDepth 100000 in
theorem inf_toldCodes_h [Tabs Tryd.prog] (ht : Tabs.tab Tryd.prog 0 = some (tells.map nA)) (t : Bool) (most : Nat) (nl : Bool) (b : List UInt8) (hb : b.length ≤ 1000000) (i : Nat) (hi : i ≤ 8 * b.length) (out : List UInt8) (r : BR (List Nat × List Nat)) (hr : tolT.run (bitsL b) i = r) :
    HCon Tryd.prog n_inflate_unpacker_toldCodes [.op 1000 0 0] (unI t most nl b i out) (ansP (fun p => cds p.1 p.2) r) (houP t most nl b out r) 600000 := by
  refine HCon.of' mix Tryd.func25 rfl Tryd.ntmps25 e_inflate_unpacker_toldCodes r_inflate_unpacker_toldCodes (by simp) (by simp [AV.gl, AV.gl.glL, int]) un_gl ?_
  unfold s_inflate_unpacker_toldCodes
  rw [tolT, run_bnd, run_num hi] at hr
  by_cases c1 : i + 14 ≤ 8 * b.length
  · rw [if_pos c1] at hr
    simp only [BR.bnd] at hr
    have hT := huff_Take_h nl b hb i hi 14 (by omega) c1
    have hcl := numAt_lt (b := b) (i := i) (n := 14)
    obtain ⟨c, hc⟩ : ∃ c, c = numAt b i 14 := ⟨_, rfl⟩
    rw [← hc] at hT hr hcl
    obtain ⟨L, hL⟩ : ∃ L, L = c % 32 + 257 := ⟨_, rfl⟩
    obtain ⟨D, hD⟩ : ∃ D, D = c / 32 % 32 + 1 := ⟨_, rfl⟩
    obtain ⟨N, hN⟩ : ∃ N, N = c / 1024 + 4 := ⟨_, rfl⟩
    rw [← hL, ← hD, ← hN] at hr
    have eL : ((c % 32 : Nat) : Int) + 257 = (L : Int) := by omega
    have eD : ((c / 32 % 32 : Nat) : Int) + 1 = (D : Int) := by omega
    have eN : ((c / 1024 : Nat) : Int) + 4 = (N : Int) := by omega
    repeat (first | refine wA ?_ | refine wB ?_ | refine wC rfl ?_ | refine wD rfl ?_ | refine wE ?_ | refine wF (by omega) ?_ | ((first | refine wG ?_ | refine wH ?_ | refine wI ?_ | refine wJ ?_ | refine wK ?_ | refine wL ?_); simp (disch := omega) only [wP, wZ, undef, seval, if_pos, if_neg, aStore, frz, AV.flat, ↓reduceIte, ne_eq, reduceCtorEq, ByteArray.size, unI, unR]))
    refine goC_h [(1001, 0)] 2000 hT (by simp) (by simp) ?_ ?_ ?_
    iterate 2 (case _ => simp (disch := omega) only [wP, wZ, undef, seval, if_pos, if_neg, aStore, frz, AV.flat, ↓reduceIte, ne_eq, reduceCtorEq, ByteArray.size, rdR])
    by_cases c2 : 286 < L ∨ 30 < D
    · rw [if_pos c2] at hr
      simp only [BT.run] at hr
      subst hr
      by_cases c3 : 286 < L
      · have d3 : decide ((286 : Int) < (L : Int)) = true := decide_eq_true (by omega)
        repeat (first | refine wA ?_ | refine wB ?_ | refine wC rfl ?_ | refine wD rfl ?_ | refine wE ?_ | refine wF (by omega) ?_ | ((first | refine wG ?_ | refine wH ?_ | refine wI ?_ | refine wJ ?_ | refine wK ?_ | refine wL ?_); simp (disch := omega) only [wP, wZ, undef, seval, if_pos, if_neg, aStore, frz, AV.flat, ↓reduceIte, ne_eq, reduceCtorEq, ByteArray.size, unR, rdR, eL, eD, d3, ansP, houP]))
      · have d3 : decide ((286 : Int) < (L : Int)) = false := decide_eq_false (by omega)
        have d4 : decide ((30 : Int) < (D : Int)) = true := decide_eq_true (by omega)
        repeat (first | refine wA ?_ | refine wB ?_ | refine wC rfl ?_ | refine wD rfl ?_ | refine wE ?_ | refine wF (by omega) ?_ | ((first | refine wG ?_ | refine wH ?_ | refine wI ?_ | refine wJ ?_ | refine wK ?_ | refine wL ?_); simp (disch := omega) only [wP, wZ, undef, seval, if_pos, if_neg, aStore, frz, AV.flat, ↓reduceIte, ne_eq, reduceCtorEq, ByteArray.size, unR, rdR, eL, eD, d3, d4, ansP, houP]))
    · rw [if_neg c2, run_bnd] at hr
      have d3 : decide ((286 : Int) < (L : Int)) = false := decide_eq_false (by omega)
      have d4 : decide ((30 : Int) < (D : Int)) = false := decide_eq_false (by omega)
      repeat (first | refine wA ?_ | refine wB ?_ | refine wC rfl ?_ | refine wD rfl ?_ | refine wE ?_ | refine wF (by omega) ?_ | ((first | refine wG ?_ | refine wH ?_ | refine wI ?_ | refine wJ ?_ | refine wK ?_ | refine wL ?_); simp (disch := omega) only [wP, wZ, undef, seval, if_pos, if_neg, aStore, frz, AV.flat, ↓reduceIte, ne_eq, reduceCtorEq, ByteArray.size, unR, rdR, eL, eD, eN, d3, d4]))
      have hTe := inf_teller_h ht t most nl b hb (i + 14) c1 out N (by omega) _ rfl
      have hTi := fun a j (h : (tlrT N).run (bitsL b) (i + 14) = .ok a j) => And.intro ((run_ok h).2 (by rw [length_bitsL]; exact c1)) (tlrT_ok c1 h)
      have hTs := fun e (h : (tlrT N).run (bitsL b) (i + 14) = .no e) => safe_run safe_tlr h
      obtain ⟨r1, hr1⟩ : ∃ r1, r1 = (tlrT N).run (bitsL b) (i + 14) := ⟨_, rfl⟩
      rw [← hr1] at hTe hTi hTs hr
      refine goC_h [(1000, 0), (1001, 0), (1002, 0)] 3000 hTe (by simp) (by simp) ?_ ?_ ?_
      iterate 2 (case _ => simp (disch := omega) only [wP, wZ, undef, seval, if_pos, if_neg, aStore, frz, AV.flat, ↓reduceIte, ne_eq, reduceCtorEq, ByteArray.size, unI, unR, rdR, ren_fxA])
      cases r1 with
      | no e =>
        simp only [BR.bnd] at hr
        subst hr
        have he := hTs e rfl
        have de : decide ((e : Int) = 0) = false := decide_eq_false (by omega)
        repeat (first | refine wA ?_ | refine wB ?_ | refine wC rfl ?_ | refine wD rfl ?_ | refine wE ?_ | refine wF (by omega) ?_ | ((first | refine wG ?_ | refine wH ?_ | refine wI ?_ | refine wJ ?_ | refine wK ?_ | refine wL ?_); simp (disch := omega) only [wP, wZ, undef, seval, if_pos, if_neg, aStore, frz, AV.flat, ↓reduceIte, ne_eq, reduceCtorEq, ByteArray.size, unR, rdR, ansP, houP, de]))
      | ok th j =>
        obtain ⟨hj, hth, hfu⟩ := hTi th j rfl
        rw [length_bitsL] at hj
        simp only [BR.bnd] at hr
        rw [run_bnd] at hr
        have hK : kraft th ≤ 32768 := by simp only [fulN, decide_eq_true_eq] at hfu; omega
        have hLs := inf_lengths_h t most nl b hb j hj out th hth hK (L + D) (by omega) (by omega) _ rfl
        have hLi := fun a q (h : (lsT th (L + D) 400 []).run (bitsL b) j = .ok a q) => lsT_ok hth 400 [] j a q (Nat.zero_le _) (by simp) hj h
        have hLe := fun e (h : (lsT th (L + D) 400 []).run (bitsL b) j = .no e) => safe_run (safe_ls _ _) h
        obtain ⟨r2, hr2⟩ : ∃ r2, r2 = (lsT th (L + D) 400 []).run (bitsL b) j := ⟨_, rfl⟩
        rw [← hr2] at hLs hLi hLe hr
        repeat (first | refine wA ?_ | refine wB ?_ | refine wC rfl ?_ | refine wD rfl ?_ | refine wE ?_ | refine wF (by omega) ?_ | ((first | refine wG ?_ | refine wH ?_ | refine wI ?_ | refine wJ ?_ | refine wK ?_ | refine wL ?_); simp (disch := omega) only [wP, wZ, undef, seval, if_pos, if_neg, aStore, frz, AV.flat, ↓reduceIte, ne_eq, reduceCtorEq, ByteArray.size, unR, rdR, ansP, houP, unO, ren_fxA, ren_treA]))
        refine goC_h [(1000, 0), (1001, 0), (1002, 0)] 4000 hLs (by simp) (by simp) ?_ ?_ ?_
        iterate 2 (case _ => simp (disch := omega) only [wP, wZ, undef, seval, if_pos, if_neg, aStore, frz, AV.flat, ↓reduceIte, ne_eq, reduceCtorEq, ByteArray.size, unI, unR, rdR, ren_fxA, ren_treA])
        cases r2 with
        | no e =>
          simp only [BR.bnd] at hr
          subst hr
          have he := hLe e rfl
          have de : decide ((e : Int) = 0) = false := decide_eq_false (by omega)
          repeat (first | refine wA ?_ | refine wB ?_ | refine wC rfl ?_ | refine wD rfl ?_ | refine wE ?_ | refine wF (by omega) ?_ | ((first | refine wG ?_ | refine wH ?_ | refine wI ?_ | refine wJ ?_ | refine wK ?_ | refine wL ?_); simp (disch := omega) only [wP, wZ, undef, seval, if_pos, if_neg, aStore, frz, AV.flat, ↓reduceIte, ne_eq, reduceCtorEq, ByteArray.size, unR, rdR, ansL, ansP, houP, de]))
        | ok ls q =>
          obtain ⟨hll, h15⟩ := hLi ls q rfl
          simp only [BR.bnd] at hr
          have hCo := inf_codesOf_h false false (ls.take L) (ls.drop L) (fun x hx => h15 x (List.mem_of_mem_take hx)) (fun x hx => h15 x (List.mem_of_mem_drop hx)) (by rw [List.length_take]; omega) (by rw [List.length_take]; omega) (by rw [List.length_drop]; omega)
          have hLL : (L : Int) ≤ ((ls.length : Nat) : Int) := by omega
          repeat (first | refine wA ?_ | refine wB ?_ | refine wC rfl ?_ | refine wD rfl ?_ | refine wE ?_ | refine wF (by omega) ?_ | ((first | refine wG ?_ | refine wH ?_ | refine wI ?_ | refine wJ ?_ | refine wK ?_ | refine wL ?_); simp (disch := omega) only [wP, wZ, undef, seval, if_pos, if_neg, aStore, frz, AV.flat, ↓reduceIte, ne_eq, reduceCtorEq, ByteArray.size, unR, rdR, ansL, ansP, houP, unO, ren_fxA, iR]))
          by_cases c5 : codN (ls.take L) (ls.drop L) = true
          · rw [if_pos c5] at hr hCo
            simp only [BT.run] at hr
            subst hr
            refine goC_p _ (.inl ⟨by simp only [AV.free, AV.free.freeL, free_nA, Bool.and_self], hCo⟩) ?_
            repeat (first | refine wA ?_ | refine wB ?_ | refine wC rfl ?_ | refine wD rfl ?_ | refine wE ?_ | refine wF (by omega) ?_ | ((first | refine wG ?_ | refine wH ?_ | refine wI ?_ | refine wJ ?_ | refine wK ?_ | refine wL ?_); simp (disch := omega) only [wP, wZ, undef, seval, if_pos, if_neg, aStore, frz, AV.flat, ↓reduceIte, ne_eq, reduceCtorEq, ByteArray.size, unR, rdR, ansL, ansP, houP, unO, ren_fxA, iR]))
            all_goals trace_state
          · rw [if_neg c5] at hr hCo
            simp only [BT.run] at hr
            subst hr
            refine goC_p _ (.inl ⟨by simp only [AV.free, AV.free.freeL, free_nA, Bool.and_self], hCo⟩) ?_
            repeat (first | refine wA ?_ | refine wB ?_ | refine wC rfl ?_ | refine wD rfl ?_ | refine wE ?_ | refine wF (by omega) ?_ | ((first | refine wG ?_ | refine wH ?_ | refine wI ?_ | refine wJ ?_ | refine wK ?_ | refine wL ?_); simp (disch := omega) only [wP, wZ, undef, seval, if_pos, if_neg, aStore, frz, AV.flat, ↓reduceIte, ne_eq, reduceCtorEq, ByteArray.size, unR, rdR, ansL, ansP, houP, unO, ren_fxA, iR]))
  · rw [if_neg c1] at hr
    simp only [BR.bnd] at hr
    subst hr
    have hT := huff_Take_no nl b hb i hi 14 (decide_eq_false (by omega))
    repeat (first | refine wA ?_ | refine wB ?_ | refine wC rfl ?_ | refine wD rfl ?_ | refine wE ?_ | refine wF (by omega) ?_ | ((first | refine wG ?_ | refine wH ?_ | refine wI ?_ | refine wJ ?_ | refine wK ?_ | refine wL ?_); simp (disch := omega) only [wP, wZ, undef, seval, if_pos, if_neg, aStore, frz, AV.flat, ↓reduceIte, ne_eq, reduceCtorEq, ByteArray.size, unI, unR]))
    refine goC_h [(1001, 0)] 2000 hT (by simp) (by simp) ?_ ?_ ?_
    iterate 2 (case _ => simp (disch := omega) only [wP, wZ, undef, seval, if_pos, if_neg, aStore, frz, AV.flat, ↓reduceIte, ne_eq, reduceCtorEq, ByteArray.size, rdR])
    repeat (first | refine wA ?_ | refine wB ?_ | refine wC rfl ?_ | refine wD rfl ?_ | refine wE ?_ | refine wF (by omega) ?_ | ((first | refine wG ?_ | refine wH ?_ | refine wI ?_ | refine wJ ?_ | refine wK ?_ | refine wL ?_); simp (disch := omega) only [wP, wZ, undef, seval, if_pos, if_neg, aStore, frz, AV.flat, ↓reduceIte, ne_eq, reduceCtorEq, ByteArray.size, unR, rdR, ansP, houP]))
end Go.Proofs.YtokdmakljdhjiaaDoor.Aw

namespace Go.Proofs.YtokdmakljdhjiaaDoor.Aw
open Go
set_option linter.unusedSimpArgs false
set_option linter.unusedVariables false

theorem numAt_add {b : List UInt8} {i m : Nat} : ∀ {n : Nat}, numAt b i (m + n) = numAt b i m + 2 ^ m * numAt b (i + m) n
  | 0 => by simp [numAt, numB]
  | n + 1 => by
    rw [← Nat.add_assoc, numAt_succ, numAt_add (n := n), numAt_succ, Nat.mul_add, Nat.pow_add, Nat.mul_assoc]
    rw [show i + (m + n) = i + m + n by omega]
    omega
def K2 (most F L : Nat) (out : List UInt8) (ls : List Nat) : BT (List UInt8) := if codN (ls.take L) (ls.drop L) = true then symT (ls.take L) (ls.drop L) most F out else .err 3
def K1 (most F L D : Nat) (out : List UInt8) (th : List Nat) : BT (List UInt8) := if fulN th = true then (lsT th (L + D) 400 []).bnd (K2 most F L out) else .err 3
theorem tol_run {b : List UInt8} {most F i : Nat} {out : List UInt8} (hi : i ≤ 8 * b.length) : (tolT.bnd fun p => symT p.1 p.2 most F out).run (bitsL b) i =
    if i + 14 ≤ 8 * b.length then
      (if 286 < numAt b i 5 + 257 ∨ 30 < numAt b (i + 5) 5 + 1 then .no 3 else ((telT (numAt b (i + 5 + 5) 4 + 4) 0 (List.replicate 19 0)).bnd (K1 most F (numAt b i 5 + 257) (numAt b (i + 5) 5 + 1) out)).run (bitsL b) (i + 5 + 5 + 4))
    else .no 2 := by
  rw [run_bnd, tolT, run_bnd, run_num hi]
  by_cases c1 : i + 14 ≤ 8 * b.length
  · rw [if_pos c1, if_pos c1]
    simp only [BR.bnd]
    have h14 : numAt b i 14 = numAt b i 5 + 32 * (numAt b (i + 5) 5 + 32 * numAt b (i + 5 + 5) 4) := by
      rw [show (14 : Nat) = 5 + (5 + 4) from rfl, numAt_add, numAt_add]
    have h5 := numAt_lt (b := b) (i := i) (n := 5)
    have h5' := numAt_lt (b := b) (i := i + 5) (n := 5)
    have eL : numAt b i 14 % 32 = numAt b i 5 := by omega
    have eD : numAt b i 14 / 32 % 32 = numAt b (i + 5) 5 := by omega
    have eN : numAt b i 14 / 1024 = numAt b (i + 5 + 5) 4 := by omega
    rw [eL, eD, eN]
    by_cases c2 : 286 < numAt b i 5 + 257 ∨ 30 < numAt b (i + 5) 5 + 1
    · rw [if_pos c2, if_pos c2]; rfl
    · rw [if_neg c2, if_neg c2, show i + 5 + 5 + 4 = i + 14 by omega, run_bnd, run_bnd, tlrT, run_bnd]
      cases (telT (numAt b (i + 5 + 5) 4 + 4) 0 (List.replicate 19 0)).run (bitsL b) (i + 14) with
      | no e => rfl
      | ok th j =>
        simp only [BR.bnd, K1]
        by_cases c3 : fulN th = true
        · rw [if_pos c3, if_pos c3, run_bnd]
          simp only [BT.run, BR.bnd, run_bnd]
          cases (lsT th (numAt b i 5 + 257 + (numAt b (i + 5) 5 + 1)) 400 []).run (bitsL b) j with
          | no e => rfl
          | ok ls k =>
            simp only [BR.bnd, K2]
            by_cases c4 : codN (ls.take (numAt b i 5 + 257)) (ls.drop (numAt b i 5 + 257)) = true
            · rw [if_pos c4, if_pos c4]; rfl
            · rw [if_neg c4, if_neg c4]; rfl
        · rw [if_neg c3, if_neg c3]; rfl
  · rw [if_neg c1, if_neg c1]; rfl

/-- How many lengths there are, and the greatest one. -/
def usd (l : List Nat) : Nat := l.foldl (fun n x => if 0 < x then n + 1 else n) 0
def mst (l : List Nat) : Nat := l.foldl (fun n x => if n < x then x else n) 0
theorem usd_snoc {l : List Nat} {x : Nat} : usd (l ++ [x]) = if 0 < x then usd l + 1 else usd l := by unfold usd; rw [List.foldl_append]; rfl
theorem mst_snoc {l : List Nat} {x : Nat} : mst (l ++ [x]) = if mst l < x then x else mst l := by unfold mst; rw [List.foldl_append]; rfl
theorem usd_facts : ∀ (n : Nat) (l : List Nat), l.length = n → usd l ≤ l.length ∧ usd l ≤ l.sum ∧ mst l ≤ l.sum ∧ l.sum ≤ usd l * mst l := by
  intro n
  induction n with
  | zero => intro l h; rw [List.length_eq_zero_iff.1 h]; simp [usd, mst]
  | succ n ih =>
    intro l h
    have hne : l ≠ [] := fun e => by rw [e] at h; simp at h
    obtain ⟨m, x, rfl⟩ : ∃ m x, l = m ++ [x] := ⟨l.dropLast, l.getLast hne, (List.dropLast_concat_getLast hne).symm⟩
    rw [List.length_append, List.length_singleton] at h
    obtain ⟨h1, h2, h3, h4⟩ := ih m (by omega)
    rw [usd_snoc, mst_snoc, List.sum_append, List.length_append, List.length_singleton]
    simp only [List.sum_cons, List.sum_nil, Nat.add_zero]
    by_cases c : 0 < x
    · rw [if_pos c]
      by_cases c2 : mst m < x
      · rw [if_pos c2]
        have := Nat.mul_le_mul_left (usd m) (Nat.le_of_lt c2)
        rw [Nat.add_mul]
        omega
      · rw [if_neg c2, Nat.add_mul]
        omega
    · rw [if_neg c, if_neg (by omega)]
      omega
theorem few_usd {d : List Nat} : decide (d.sum ≤ 1) = !(decide (1 < usd d) || decide (1 < mst d)) := by
  obtain ⟨_, h2, h3, h4⟩ := usd_facts _ d rfl
  by_cases c : d.sum ≤ 1
  · rw [decide_eq_true c, decide_eq_false (by omega), decide_eq_false (by omega)]; rfl
  · rw [decide_eq_false c]
    by_cases c2 : 1 < usd d
    · rw [decide_eq_true c2]; rfl
    · by_cases c3 : 1 < mst d
      · rw [decide_eq_true c3, Bool.or_true]; rfl
      · exfalso
        have : usd d * mst d ≤ 1 * 1 := Nat.mul_le_mul (by omega) (by omega)
        omega
end Go.Proofs.YtokdmakljdhjiaaDoor.Aw
