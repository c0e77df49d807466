/- Contracts: (*unpacker).lengths. -/
import Derived.Test.YtokdmakljdhjiaaDoorPkI
namespace Go.Proofs.YtokdmakljdhjiaaDoor.Aw
open Go
set_option linter.unusedSimpArgs false
set_option linter.unusedVariables false

def ansL : BR (List Nat) → AV
  | .ok l _ => .tup [.sl false none (l.map nA), int 0]
  | .no e => .tup [.sc (.slice none 0 0), int (e : Int)]
theorem nl0_add {a c : Nat} (h : 0 < c) : nl0 (a + c) = false := nl0_pos (by omega)

set_option maxHeartbeats 2000000 in
set_option maxRecDepth 100000 in
theorem inf_lengths_h [Tabs Tryd.prog] (t : Bool) (most : Nat) (nl : Bool) (b : List UInt8) (hb : b.length ≤ 1000000) (i : Nat) (hi : i ≤ 8 * b.length) (out : List UInt8) (th : List Nat) (hth : th.length = 19) (hK : kraft th ≤ 32768) (n : Nat) (hn0 : 0 < n) (hn : n < 400) (r : BR (List Nat)) (hr : (lsT th n 400 []).run (bitsL b) i = r) :
    HCon Tryd.prog n_inflate_unpacker_lengths [.op 1000 0 0, treA th, int (n : Int)] (unI t most nl b i out) (ansL r) (houP t most nl b out r) 500000 := by
  refine HCon.of' mix Tryd.func45 rfl Tryd.ntmps45 e_inflate_unpacker_lengths r_inflate_unpacker_lengths (by simp) (by simp only [AV.gl.glL, AV.gl, int, and_true]; exact ⟨by omega, gl_of_free 1 _ free_treA⟩) un_gl ?_
  unfold s_inflate_unpacker_lengths
  repeat (first | refine wA ?_ | refine wB ?_ | refine wC rfl ?_ | refine wD rfl ?_ | refine wE ?_ | refine wF (by omega) ?_ | ((first | refine wG ?_ | refine wH ?_ | refine wI ?_ | refine wJ ?_ | refine wK ?_ | refine wL ?_); simp (disch := omega) only [wP, wZ, undef, seval, if_pos, if_neg, aStore, frz, AV.flat, ↓reduceIte, ne_eq, reduceCtorEq, ByteArray.size, unI]))
  refine SWp.adopt 8 none (by simp (disch := omega) only [wP, wZ, undef, seval, if_pos, if_neg, aStore, frz, AV.flat, ↓reduceIte, ne_eq, reduceCtorEq, ByteArray.size]) ?_
  refine SWp.loop (α := Nat × List Nat × Nat × Nat × Nat) (fun x => mk 70 x.2.2.2.2 [(0, .op 1000 0 0), (1, treA th), (2, int (n : Int)), (8, .own 8 x.2.2.2.1 none 0 x.2.1.length)] [(1000, 0, .row false (unR t most 0 out.length)), (1001, 0, .row false (rdR nl b x.2.2.1)), (1002, 0, .row (nl0 out.length) (out.map u8)), (8, x.2.2.2.1, .row (nl0 x.2.1.length) (x.2.1.map nA))])
    (fun x => (lsT th n x.1 x.2.1).run (bitsL b) x.2.2.1 = r ∧ x.2.2.1 ≤ 8 * b.length ∧ x.2.1.length ≤ n ∧ n - x.2.1.length < x.1 ∧ (∀ y ∈ x.2.1, y ≤ 18) ∧ x.2.2.2.2 + 1000 * x.1 ≤ 400002) (fun x => x.1) (400, [], i, 1, 2) ⟨hr, hi, Nat.zero_le _, by simp only [List.length_nil]; omega, by simp, by simp only; omega⟩ (le_mk rfl ?_ ?_ ?_) ?_
  · exact Nat.le_refl _
  iterate 2 (case _ => simp (disch := omega) only [wP, wZ, undef, seval, if_pos, if_neg, aStore, frz, AV.flat, ↓reduceIte, ne_eq, reduceCtorEq, ByteArray.size, nl0_zero])
  rintro ⟨f, l, p, g, c⟩ ⟨hx, hp, hln, hf, hl18, hc⟩ -
  simp only at hx hp hln hf hl18 hc
  obtain ⟨f, rfl⟩ : ∃ f', f = f' + 1 := ⟨f - 1, by omega⟩
  rw [lsT] at hx
  repeat (first | refine wA ?_ | refine wB ?_ | refine wC rfl ?_ | refine wD rfl ?_ | refine wE ?_ | refine wF (by omega) ?_ | ((first | refine wG ?_ | refine wH ?_ | refine wI ?_ | refine wJ ?_ | refine wK ?_ | refine wL ?_); simp (disch := omega) only [wP, wZ, undef, seval, if_pos, if_neg, aStore, frz, AV.flat, ↓reduceIte, ne_eq, reduceCtorEq, ByteArray.size]))
  refine SWp.cond rfl (fun h => ?_) (fun h => ?_)
  · simp only [decide_eq_true_eq] at h
    have hlt : l.length < n := by omega
    rw [if_neg (by omega), run_bnd, run_nxt] at hx
    have hfc := nxt_facts (l := th) (B := (bitsL b).drop p) 15 0 0 (Nat.zero_le _)
    have hsy := nxt_sym (l := th) (B := (bitsL b).drop p) 15 0 0
    have hN := huff_Next_h th (by omega) hK nl b hb p hp _ rfl
    rw [List.length_drop, length_bitsL] at hfc
    obtain ⟨⟨sy, m, e⟩, hr2⟩ : ∃ r, r = nxt th ((bitsL b).drop p) 15 0 0 := ⟨_, rfl⟩
    rw [← hr2] at hfc hsy hN hx
    simp only at hfc hsy hN
    clear hr2 hr
    by_cases c2 : e = 0
    · subst c2
      have hsy := hsy rfl
      obtain ⟨q, hq⟩ : ∃ q, q = p + m := ⟨_, rfl⟩
      have hq8 : q ≤ 8 * b.length := by omega
      simp only [nxtR, if_true, BR.bnd] at hx
      rw [← hq] at hN hx
      by_cases c16 : sy = 16 ∧ l = []
      · rw [if_pos c16] at hx
        simp only [BT.run] at hx
        subst hx
        obtain ⟨rfl, rfl⟩ := c16
        repeat (first | refine wA ?_ | refine wB ?_ | refine wC rfl ?_ | refine wD rfl ?_ | refine wE ?_ | refine wF (by omega) ?_ | ((first | refine wG ?_ | refine wH ?_ | refine wI ?_ | refine wJ ?_ | refine wK ?_ | refine wL ?_); simp (disch := omega) only [wP, wZ, undef, seval, if_pos, if_neg, aStore, frz, AV.flat, ↓reduceIte, ne_eq, reduceCtorEq, ByteArray.size, unR, treA]))
        refine goC_h [(1001, 0)] 2000 hN (by simp) (by simp) ?_ ?_ ?_
        iterate 2 (case _ => simp (disch := omega) only [wP, wZ, undef, seval, if_pos, if_neg, aStore, frz, AV.flat, ↓reduceIte, ne_eq, reduceCtorEq, ByteArray.size, rdR, ren_tree])
        repeat (first | refine wA ?_ | refine wB ?_ | refine wC rfl ?_ | refine wD rfl ?_ | refine wE ?_ | refine wF (by omega) ?_ | ((first | refine wG ?_ | refine wH ?_ | refine wI ?_ | refine wJ ?_ | refine wK ?_ | refine wL ?_); simp (disch := omega) only [wP, wZ, undef, seval, if_pos, if_neg, aStore, frz, AV.flat, ↓reduceIte, ne_eq, reduceCtorEq, ByteArray.size, ansL, houP]))
        omega
      · rw [if_neg c16, run_bnd] at hx
        obtain ⟨V, hV⟩ : ∃ V, V = lsV sy l := ⟨_, rfl⟩
        obtain ⟨N, hN1⟩ : ∃ N, N = lsN sy := ⟨_, rfl⟩
        obtain ⟨Bt, hBt⟩ : ∃ B, B = lsB sy := ⟨_, rfl⟩
        have hV18 : V ≤ 18 := by
          rw [hV]; unfold lsV
          split
          · rename_i e16
            have hne : l ≠ [] := fun h => c16 ⟨e16, h⟩
            have h0 : l.length - 1 < l.length := by have := List.length_pos_iff.2 hne; omega
            have : l.getD (l.length - 1) 0 = l[l.length - 1] := by simp [List.getD, List.getElem?_eq_getElem h0]
            rw [this]; exact hl18 _ (List.getElem_mem h0)
          · split
            · omega
            · omega
        have hN3 : 1 ≤ N ∧ N ≤ 11 := by rw [hN1]; unfold lsN; split <;> (try split) <;> omega
        have hB7 : Bt ≤ 7 := by rw [hBt]; unfold lsB; split <;> (try split) <;> (try split) <;> omega
        rw [← hV, ← hN1, ← hBt] at hx
        have hA := inf_plus_a t most nl b hb q hq8 out N Bt (by omega) (by omega)
        have hAi := fun a j (h : (plusT N Bt).run (bitsL b) q = .ok a j) => (run_ok h).2 (by rw [length_bitsL]; exact hq8)
        have hA2 := fun a j (h : (plusT N Bt).run (bitsL b) q = .ok a j) => And.intro (plusT_le bitsL_lt h) (plusT_ge h)
        have hp7 : 2 ^ Bt ≤ 128 := two_pow_le (n := Bt) (m := 7) hB7
        obtain ⟨r1, hr1⟩ : ∃ r, r = (plusT N Bt).run (bitsL b) q := ⟨_, rfl⟩
        rw [← hr1] at hA hAi hA2 hx
        cases r1 with
        | no e1 =>
          simp only [BR.bnd] at hx
          subst hx
          have de : decide ((e1 : Int) = 0) = false := decide_eq_false (by have := hA.1; omega)
          by_cases e16 : sy = 16
          · subst e16
            have hl0 : 0 < l.length := List.length_pos_iff.2 fun h => c16 ⟨rfl, h⟩
            have dl : decide ((l.length : Int) = 0) = false := decide_eq_false (by omega)
            obtain ⟨z, hz⟩ : ∃ z, z = l.length - 1 := ⟨_, rfl⟩
            have ez : (l.length : Int) - 1 = (z : Int) := by omega
            have hVz : l.getD z 0 = V := by rw [hV, hz]; rfl
            obtain rfl : N = 3 := hN1
            obtain rfl : Bt = 2 := hBt
            repeat (first | refine wA ?_ | refine wB ?_ | refine wC rfl ?_ | refine wD rfl ?_ | refine wE ?_ | refine wF (by omega) ?_ | ((first | refine wG ?_ | refine wH ?_ | refine wI ?_ | refine wJ ?_ | refine wK ?_ | refine wL ?_); simp (disch := omega) only [wP, wZ, undef, seval, if_pos, if_neg, aStore, frz, AV.flat, ↓reduceIte, ne_eq, reduceCtorEq, ByteArray.size, unR, treA]))
            refine goC_h [(1001, 0)] 2000 hN (by simp) (by simp) ?_ ?_ ?_
            iterate 2 (case _ => simp (disch := omega) only [wP, wZ, undef, seval, if_pos, if_neg, aStore, frz, AV.flat, ↓reduceIte, ne_eq, reduceCtorEq, ByteArray.size, rdR, ren_tree])
            repeat (first | refine wA ?_ | refine wB ?_ | refine wC rfl ?_ | refine wD rfl ?_ | refine wE ?_ | refine wF (by omega) ?_ | ((first | refine wG ?_ | refine wH ?_ | refine wI ?_ | refine wJ ?_ | refine wK ?_ | refine wL ?_); simp (disch := omega) only [wP, wZ, undef, seval, if_pos, if_neg, aStore, frz, AV.flat, ↓reduceIte, ne_eq, reduceCtorEq, ByteArray.size, unR, rdR, dl, ez, iR, hVz]))
            refine goC_h [(1000, 0), (1001, 0), (1002, 0)] 3000 hA.2 (by simp) (by simp) ?_ ?_ ?_
            iterate 2 (case _ => simp (disch := omega) only [wP, wZ, undef, seval, if_pos, if_neg, aStore, frz, AV.flat, ↓reduceIte, ne_eq, reduceCtorEq, ByteArray.size, unI, unR, rdR, ren_fxA])
            repeat (first | refine wA ?_ | refine wB ?_ | refine wC rfl ?_ | refine wD rfl ?_ | refine wE ?_ | refine wF (by omega) ?_ | ((first | refine wG ?_ | refine wH ?_ | refine wI ?_ | refine wJ ?_ | refine wK ?_ | refine wL ?_); simp (disch := omega) only [wP, wZ, undef, seval, if_pos, if_neg, aStore, frz, AV.flat, ↓reduceIte, ne_eq, reduceCtorEq, ByteArray.size, unO, unR, rdR, ren_fxA, noI, ansL, houP, de]))
            omega
          have d16 : decide ((sy : Int) = 16) = false := decide_eq_false (by omega)
          by_cases e17 : sy = 17
          · subst e17
            obtain rfl : V = 0 := hV
            obtain rfl : N = 3 := hN1
            obtain rfl : Bt = 3 := hBt
            repeat (first | refine wA ?_ | refine wB ?_ | refine wC rfl ?_ | refine wD rfl ?_ | refine wE ?_ | refine wF (by omega) ?_ | ((first | refine wG ?_ | refine wH ?_ | refine wI ?_ | refine wJ ?_ | refine wK ?_ | refine wL ?_); simp (disch := omega) only [wP, wZ, undef, seval, if_pos, if_neg, aStore, frz, AV.flat, ↓reduceIte, ne_eq, reduceCtorEq, ByteArray.size, unR, treA]))
            refine goC_h [(1001, 0)] 2000 hN (by simp) (by simp) ?_ ?_ ?_
            iterate 2 (case _ => simp (disch := omega) only [wP, wZ, undef, seval, if_pos, if_neg, aStore, frz, AV.flat, ↓reduceIte, ne_eq, reduceCtorEq, ByteArray.size, rdR, ren_tree])
            repeat (first | refine wA ?_ | refine wB ?_ | refine wC rfl ?_ | refine wD rfl ?_ | refine wE ?_ | refine wF (by omega) ?_ | ((first | refine wG ?_ | refine wH ?_ | refine wI ?_ | refine wJ ?_ | refine wK ?_ | refine wL ?_); simp (disch := omega) only [wP, wZ, undef, seval, if_pos, if_neg, aStore, frz, AV.flat, ↓reduceIte, ne_eq, reduceCtorEq, ByteArray.size, unR, rdR]))
            refine goC_h [(1000, 0), (1001, 0), (1002, 0)] 3000 hA.2 (by simp) (by simp) ?_ ?_ ?_
            iterate 2 (case _ => simp (disch := omega) only [wP, wZ, undef, seval, if_pos, if_neg, aStore, frz, AV.flat, ↓reduceIte, ne_eq, reduceCtorEq, ByteArray.size, unI, unR, rdR, ren_fxA])
            repeat (first | refine wA ?_ | refine wB ?_ | refine wC rfl ?_ | refine wD rfl ?_ | refine wE ?_ | refine wF (by omega) ?_ | ((first | refine wG ?_ | refine wH ?_ | refine wI ?_ | refine wJ ?_ | refine wK ?_ | refine wL ?_); simp (disch := omega) only [wP, wZ, undef, seval, if_pos, if_neg, aStore, frz, AV.flat, ↓reduceIte, ne_eq, reduceCtorEq, ByteArray.size, unO, unR, rdR, ren_fxA, noI, ansL, houP, de]))
            omega
          have d17 : decide ((sy : Int) = 17) = false := decide_eq_false (by omega)
          by_cases e18 : sy = 18
          · subst e18
            obtain rfl : V = 0 := hV
            obtain rfl : N = 11 := hN1
            obtain rfl : Bt = 7 := hBt
            repeat (first | refine wA ?_ | refine wB ?_ | refine wC rfl ?_ | refine wD rfl ?_ | refine wE ?_ | refine wF (by omega) ?_ | ((first | refine wG ?_ | refine wH ?_ | refine wI ?_ | refine wJ ?_ | refine wK ?_ | refine wL ?_); simp (disch := omega) only [wP, wZ, undef, seval, if_pos, if_neg, aStore, frz, AV.flat, ↓reduceIte, ne_eq, reduceCtorEq, ByteArray.size, unR, treA]))
            refine goC_h [(1001, 0)] 2000 hN (by simp) (by simp) ?_ ?_ ?_
            iterate 2 (case _ => simp (disch := omega) only [wP, wZ, undef, seval, if_pos, if_neg, aStore, frz, AV.flat, ↓reduceIte, ne_eq, reduceCtorEq, ByteArray.size, rdR, ren_tree])
            repeat (first | refine wA ?_ | refine wB ?_ | refine wC rfl ?_ | refine wD rfl ?_ | refine wE ?_ | refine wF (by omega) ?_ | ((first | refine wG ?_ | refine wH ?_ | refine wI ?_ | refine wJ ?_ | refine wK ?_ | refine wL ?_); simp (disch := omega) only [wP, wZ, undef, seval, if_pos, if_neg, aStore, frz, AV.flat, ↓reduceIte, ne_eq, reduceCtorEq, ByteArray.size, unR, rdR]))
            refine goC_h [(1000, 0), (1001, 0), (1002, 0)] 3000 hA.2 (by simp) (by simp) ?_ ?_ ?_
            iterate 2 (case _ => simp (disch := omega) only [wP, wZ, undef, seval, if_pos, if_neg, aStore, frz, AV.flat, ↓reduceIte, ne_eq, reduceCtorEq, ByteArray.size, unI, unR, rdR, ren_fxA])
            repeat (first | refine wA ?_ | refine wB ?_ | refine wC rfl ?_ | refine wD rfl ?_ | refine wE ?_ | refine wF (by omega) ?_ | ((first | refine wG ?_ | refine wH ?_ | refine wI ?_ | refine wJ ?_ | refine wK ?_ | refine wL ?_); simp (disch := omega) only [wP, wZ, undef, seval, if_pos, if_neg, aStore, frz, AV.flat, ↓reduceIte, ne_eq, reduceCtorEq, ByteArray.size, unO, unR, rdR, ren_fxA, noI, ansL, houP, de]))
            omega
          have d18 : decide ((sy : Int) = 18) = false := decide_eq_false (by omega)
          obtain rfl : V = sy := by rw [hV, lsV, if_neg e16, if_neg (by omega)]
          obtain rfl : N = 1 := by rw [hN1, lsN, if_neg (by omega), if_neg e18]
          obtain rfl : Bt = 0 := by rw [hBt, lsB, if_neg e16, if_neg e17, if_neg e18]
          repeat (first | refine wA ?_ | refine wB ?_ | refine wC rfl ?_ | refine wD rfl ?_ | refine wE ?_ | refine wF (by omega) ?_ | ((first | refine wG ?_ | refine wH ?_ | refine wI ?_ | refine wJ ?_ | refine wK ?_ | refine wL ?_); simp (disch := omega) only [wP, wZ, undef, seval, if_pos, if_neg, aStore, frz, AV.flat, ↓reduceIte, ne_eq, reduceCtorEq, ByteArray.size, unR, treA]))
          refine goC_h [(1001, 0)] 2000 hN (by simp) (by simp) ?_ ?_ ?_
          iterate 2 (case _ => simp (disch := omega) only [wP, wZ, undef, seval, if_pos, if_neg, aStore, frz, AV.flat, ↓reduceIte, ne_eq, reduceCtorEq, ByteArray.size, rdR, ren_tree])
          repeat (first | refine wA ?_ | refine wB ?_ | refine wC rfl ?_ | refine wD rfl ?_ | refine wE ?_ | refine wF (by omega) ?_ | ((first | refine wG ?_ | refine wH ?_ | refine wI ?_ | refine wJ ?_ | refine wK ?_ | refine wL ?_); simp (disch := omega) only [wP, wZ, undef, seval, if_pos, if_neg, aStore, frz, AV.flat, ↓reduceIte, ne_eq, reduceCtorEq, ByteArray.size, unR, rdR, d16, d17, d18]))
          refine goC_h [(1000, 0), (1001, 0), (1002, 0)] 3000 hA.2 (by simp) (by simp) ?_ ?_ ?_
          iterate 2 (case _ => simp (disch := omega) only [wP, wZ, undef, seval, if_pos, if_neg, aStore, frz, AV.flat, ↓reduceIte, ne_eq, reduceCtorEq, ByteArray.size, unI, unR, rdR, ren_fxA])
          repeat (first | refine wA ?_ | refine wB ?_ | refine wC rfl ?_ | refine wD rfl ?_ | refine wE ?_ | refine wF (by omega) ?_ | ((first | refine wG ?_ | refine wH ?_ | refine wI ?_ | refine wJ ?_ | refine wK ?_ | refine wL ?_); simp (disch := omega) only [wP, wZ, undef, seval, if_pos, if_neg, aStore, frz, AV.flat, ↓reduceIte, ne_eq, reduceCtorEq, ByteArray.size, unO, unR, rdR, ren_fxA, noI, ansL, houP, de]))
          omega
        | ok a j =>
          have hj := hAi a j rfl
          have ha := hA2 a j rfl
          rw [length_bitsL] at hj
          simp only [BR.bnd] at hx
          by_cases c3 : n < l.length + a
          · rw [if_pos c3] at hx
            simp only [BT.run] at hx
            subst hx
            have d3 : decide ((n : Int) - (l.length : Int) < (a : Int)) = true := decide_eq_true (by omega)
            by_cases e16 : sy = 16
            · subst e16
              have hl0 : 0 < l.length := List.length_pos_iff.2 fun h => c16 ⟨rfl, h⟩
              have dl : decide ((l.length : Int) = 0) = false := decide_eq_false (by omega)
              obtain ⟨z, hz⟩ : ∃ z, z = l.length - 1 := ⟨_, rfl⟩
              have ez : (l.length : Int) - 1 = (z : Int) := by omega
              have hVz : l.getD z 0 = V := by rw [hV, hz]; rfl
              obtain rfl : N = 3 := hN1
              obtain rfl : Bt = 2 := hBt
              repeat (first | refine wA ?_ | refine wB ?_ | refine wC rfl ?_ | refine wD rfl ?_ | refine wE ?_ | refine wF (by omega) ?_ | ((first | refine wG ?_ | refine wH ?_ | refine wI ?_ | refine wJ ?_ | refine wK ?_ | refine wL ?_); simp (disch := omega) only [wP, wZ, undef, seval, if_pos, if_neg, aStore, frz, AV.flat, ↓reduceIte, ne_eq, reduceCtorEq, ByteArray.size, unR, treA]))
              refine goC_h [(1001, 0)] 2000 hN (by simp) (by simp) ?_ ?_ ?_
              iterate 2 (case _ => simp (disch := omega) only [wP, wZ, undef, seval, if_pos, if_neg, aStore, frz, AV.flat, ↓reduceIte, ne_eq, reduceCtorEq, ByteArray.size, rdR, ren_tree])
              repeat (first | refine wA ?_ | refine wB ?_ | refine wC rfl ?_ | refine wD rfl ?_ | refine wE ?_ | refine wF (by omega) ?_ | ((first | refine wG ?_ | refine wH ?_ | refine wI ?_ | refine wJ ?_ | refine wK ?_ | refine wL ?_); simp (disch := omega) only [wP, wZ, undef, seval, if_pos, if_neg, aStore, frz, AV.flat, ↓reduceIte, ne_eq, reduceCtorEq, ByteArray.size, unR, rdR, dl, ez, iR, hVz]))
              refine goC_h [(1000, 0), (1001, 0), (1002, 0)] 3000 hA (by simp) (by simp) ?_ ?_ ?_
              iterate 2 (case _ => simp (disch := omega) only [wP, wZ, undef, seval, if_pos, if_neg, aStore, frz, AV.flat, ↓reduceIte, ne_eq, reduceCtorEq, ByteArray.size, unI, unR, rdR, ren_fxA])
              repeat (first | refine wA ?_ | refine wB ?_ | refine wC rfl ?_ | refine wD rfl ?_ | refine wE ?_ | refine wF (by omega) ?_ | ((first | refine wG ?_ | refine wH ?_ | refine wI ?_ | refine wJ ?_ | refine wK ?_ | refine wL ?_); simp (disch := omega) only [wP, wZ, undef, seval, if_pos, if_neg, aStore, frz, AV.flat, ↓reduceIte, ne_eq, reduceCtorEq, ByteArray.size, unO, unR, rdR, ren_fxA, okI, ansL, houP, d3]))
              omega
            have d16 : decide ((sy : Int) = 16) = false := decide_eq_false (by omega)
            by_cases e17 : sy = 17
            · subst e17
              obtain rfl : V = 0 := hV
              obtain rfl : N = 3 := hN1
              obtain rfl : Bt = 3 := hBt
              repeat (first | refine wA ?_ | refine wB ?_ | refine wC rfl ?_ | refine wD rfl ?_ | refine wE ?_ | refine wF (by omega) ?_ | ((first | refine wG ?_ | refine wH ?_ | refine wI ?_ | refine wJ ?_ | refine wK ?_ | refine wL ?_); simp (disch := omega) only [wP, wZ, undef, seval, if_pos, if_neg, aStore, frz, AV.flat, ↓reduceIte, ne_eq, reduceCtorEq, ByteArray.size, unR, treA]))
              refine goC_h [(1001, 0)] 2000 hN (by simp) (by simp) ?_ ?_ ?_
              iterate 2 (case _ => simp (disch := omega) only [wP, wZ, undef, seval, if_pos, if_neg, aStore, frz, AV.flat, ↓reduceIte, ne_eq, reduceCtorEq, ByteArray.size, rdR, ren_tree])
              repeat (first | refine wA ?_ | refine wB ?_ | refine wC rfl ?_ | refine wD rfl ?_ | refine wE ?_ | refine wF (by omega) ?_ | ((first | refine wG ?_ | refine wH ?_ | refine wI ?_ | refine wJ ?_ | refine wK ?_ | refine wL ?_); simp (disch := omega) only [wP, wZ, undef, seval, if_pos, if_neg, aStore, frz, AV.flat, ↓reduceIte, ne_eq, reduceCtorEq, ByteArray.size, unR, rdR]))
              refine goC_h [(1000, 0), (1001, 0), (1002, 0)] 3000 hA (by simp) (by simp) ?_ ?_ ?_
              iterate 2 (case _ => simp (disch := omega) only [wP, wZ, undef, seval, if_pos, if_neg, aStore, frz, AV.flat, ↓reduceIte, ne_eq, reduceCtorEq, ByteArray.size, unI, unR, rdR, ren_fxA])
              repeat (first | refine wA ?_ | refine wB ?_ | refine wC rfl ?_ | refine wD rfl ?_ | refine wE ?_ | refine wF (by omega) ?_ | ((first | refine wG ?_ | refine wH ?_ | refine wI ?_ | refine wJ ?_ | refine wK ?_ | refine wL ?_); simp (disch := omega) only [wP, wZ, undef, seval, if_pos, if_neg, aStore, frz, AV.flat, ↓reduceIte, ne_eq, reduceCtorEq, ByteArray.size, unO, unR, rdR, ren_fxA, okI, ansL, houP, d3]))
              omega
            have d17 : decide ((sy : Int) = 17) = false := decide_eq_false (by omega)
            by_cases e18 : sy = 18
            · subst e18
              obtain rfl : V = 0 := hV
              obtain rfl : N = 11 := hN1
              obtain rfl : Bt = 7 := hBt
              repeat (first | refine wA ?_ | refine wB ?_ | refine wC rfl ?_ | refine wD rfl ?_ | refine wE ?_ | refine wF (by omega) ?_ | ((first | refine wG ?_ | refine wH ?_ | refine wI ?_ | refine wJ ?_ | refine wK ?_ | refine wL ?_); simp (disch := omega) only [wP, wZ, undef, seval, if_pos, if_neg, aStore, frz, AV.flat, ↓reduceIte, ne_eq, reduceCtorEq, ByteArray.size, unR, treA]))
              refine goC_h [(1001, 0)] 2000 hN (by simp) (by simp) ?_ ?_ ?_
              iterate 2 (case _ => simp (disch := omega) only [wP, wZ, undef, seval, if_pos, if_neg, aStore, frz, AV.flat, ↓reduceIte, ne_eq, reduceCtorEq, ByteArray.size, rdR, ren_tree])
              repeat (first | refine wA ?_ | refine wB ?_ | refine wC rfl ?_ | refine wD rfl ?_ | refine wE ?_ | refine wF (by omega) ?_ | ((first | refine wG ?_ | refine wH ?_ | refine wI ?_ | refine wJ ?_ | refine wK ?_ | refine wL ?_); simp (disch := omega) only [wP, wZ, undef, seval, if_pos, if_neg, aStore, frz, AV.flat, ↓reduceIte, ne_eq, reduceCtorEq, ByteArray.size, unR, rdR]))
              refine goC_h [(1000, 0), (1001, 0), (1002, 0)] 3000 hA (by simp) (by simp) ?_ ?_ ?_
              iterate 2 (case _ => simp (disch := omega) only [wP, wZ, undef, seval, if_pos, if_neg, aStore, frz, AV.flat, ↓reduceIte, ne_eq, reduceCtorEq, ByteArray.size, unI, unR, rdR, ren_fxA])
              repeat (first | refine wA ?_ | refine wB ?_ | refine wC rfl ?_ | refine wD rfl ?_ | refine wE ?_ | refine wF (by omega) ?_ | ((first | refine wG ?_ | refine wH ?_ | refine wI ?_ | refine wJ ?_ | refine wK ?_ | refine wL ?_); simp (disch := omega) only [wP, wZ, undef, seval, if_pos, if_neg, aStore, frz, AV.flat, ↓reduceIte, ne_eq, reduceCtorEq, ByteArray.size, unO, unR, rdR, ren_fxA, okI, ansL, houP, d3]))
              omega
            have d18 : decide ((sy : Int) = 18) = false := decide_eq_false (by omega)
            obtain rfl : V = sy := by rw [hV, lsV, if_neg e16, if_neg (by omega)]
            obtain rfl : N = 1 := by rw [hN1, lsN, if_neg (by omega), if_neg e18]
            obtain rfl : Bt = 0 := by rw [hBt, lsB, if_neg e16, if_neg e17, if_neg e18]
            exfalso
            omega
          · rw [if_neg c3] at hx
            have d3 : decide ((n : Int) - (l.length : Int) < (a : Int)) = false := decide_eq_false (by omega)
            have hRp := slices_Repeat_c V a (by omega) (by omega)
            have hX : (l ++ List.replicate a V).length = l.length + a := by simp
            have hem : ((List.replicate a V).map nA).isEmpty = false := by
              obtain ⟨a, rfl⟩ : ∃ k, a = k + 1 := ⟨a - 1, by omega⟩
              rfl
            have hXl : (List.replicate a V).length = a := List.length_replicate
            have h18 : ∀ y ∈ l ++ List.replicate a V, y ≤ 18 := by
              intro y hy
              rcases List.mem_append.1 hy with hy | hy
              · exact hl18 y hy
              · rw [(List.mem_replicate.1 hy).2]; exact hV18
            have hn0' : nl0 (l.length + a) = false := nl0_add (by omega)
            obtain ⟨X, hXd⟩ : ∃ X, X = List.replicate a V := ⟨_, rfl⟩
            rw [← hXd] at hRp hx hX hem hXl h18
            by_cases e16 : sy = 16
            · subst e16
              have hl0 : 0 < l.length := List.length_pos_iff.2 fun h => c16 ⟨rfl, h⟩
              have dl : decide ((l.length : Int) = 0) = false := decide_eq_false (by omega)
              obtain ⟨z, hz⟩ : ∃ z, z = l.length - 1 := ⟨_, rfl⟩
              have ez : (l.length : Int) - 1 = (z : Int) := by omega
              have hVz : l.getD z 0 = V := by rw [hV, hz]; rfl
              obtain rfl : N = 3 := hN1
              obtain rfl : Bt = 2 := hBt
              repeat (first | refine wA ?_ | refine wB ?_ | refine wC rfl ?_ | refine wD rfl ?_ | refine wE ?_ | refine wF (by omega) ?_ | ((first | refine wG ?_ | refine wH ?_ | refine wI ?_ | refine wJ ?_ | refine wK ?_ | refine wL ?_); simp (disch := omega) only [wP, wZ, undef, seval, if_pos, if_neg, aStore, frz, AV.flat, ↓reduceIte, ne_eq, reduceCtorEq, ByteArray.size, unR, treA]))
              refine goC_h [(1001, 0)] 2000 hN (by simp) (by simp) ?_ ?_ ?_
              iterate 2 (case _ => simp (disch := omega) only [wP, wZ, undef, seval, if_pos, if_neg, aStore, frz, AV.flat, ↓reduceIte, ne_eq, reduceCtorEq, ByteArray.size, rdR, ren_tree])
              repeat (first | refine wA ?_ | refine wB ?_ | refine wC rfl ?_ | refine wD rfl ?_ | refine wE ?_ | refine wF (by omega) ?_ | ((first | refine wG ?_ | refine wH ?_ | refine wI ?_ | refine wJ ?_ | refine wK ?_ | refine wL ?_); simp (disch := omega) only [wP, wZ, undef, seval, if_pos, if_neg, aStore, frz, AV.flat, ↓reduceIte, ne_eq, reduceCtorEq, ByteArray.size, unR, rdR, dl, ez, iR, hVz]))
              refine goC_h [(1000, 0), (1001, 0), (1002, 0)] 3000 hA (by simp) (by simp) ?_ ?_ ?_
              iterate 2 (case _ => simp (disch := omega) only [wP, wZ, undef, seval, if_pos, if_neg, aStore, frz, AV.flat, ↓reduceIte, ne_eq, reduceCtorEq, ByteArray.size, unI, unR, rdR, ren_fxA])
              repeat (first | refine wA ?_ | refine wB ?_ | refine wC rfl ?_ | refine wD rfl ?_ | refine wE ?_ | refine wF (by omega) ?_ | ((first | refine wG ?_ | refine wH ?_ | refine wI ?_ | refine wJ ?_ | refine wK ?_ | refine wL ?_); simp (disch := omega) only [wP, wZ, undef, seval, if_pos, if_neg, aStore, frz, AV.flat, ↓reduceIte, ne_eq, reduceCtorEq, ByteArray.size, unO, unR, rdR, ren_fxA, okI, d3]))
              refine goC_f 65 (c + 100 + 40) (nl := false) (cells := [nA V]) [.sl false none [.sc (.int .i64 (V : Int))], int (a : Int)] _ (by simp (disch := omega) only [wP, wZ, undef, seval, if_pos, if_neg, aStore, frz, AV.flat, ↓reduceIte, ne_eq, reduceCtorEq, ByteArray.size, nA]) (by simp (disch := omega) only [wP, wZ, undef, seval, if_pos, if_neg, aStore, frz, AV.flat, ↓reduceIte, ne_eq, reduceCtorEq, ByteArray.size, nA]) ?_ (by simp (disch := omega) only [wP, wZ, undef, seval, if_pos, if_neg, aStore, frz, AV.flat, ↓reduceIte, ne_eq, reduceCtorEq, ByteArray.size]) hRp ?_
              · simp (disch := omega) only [wP, wZ, undef, seval, if_pos, if_neg, aStore, frz, AV.flat, ↓reduceIte, ne_eq, reduceCtorEq, ByteArray.size, fR, nA]
              repeat (first | refine wA ?_ | refine wB ?_ | refine wC rfl ?_ | refine wD rfl ?_ | refine wE ?_ | refine wF (by omega) ?_ | ((first | refine wG ?_ | refine wH ?_ | refine wI ?_ | refine wJ ?_ | refine wK ?_ | refine wL ?_); simp (disch := omega) only [wP, wZ, undef, seval, if_pos, if_neg, aStore, frz, AV.flat, ↓reduceIte, ne_eq, reduceCtorEq, ByteArray.size, hX, hXl, hem, Bool.and_false]))
              refine At.of (f, l ++ X, j, c + 100 + 40 + 1, c + 100 + 40 + 2) ⟨hx, hj, by simp only; omega, by simp only; omega, h18, by simp only; omega⟩ (by simp only; omega) rfl rfl ?_ ?_ ?_
              · simp only; omega
              iterate 2 (case _ => simp (disch := omega) only [wP, wZ, undef, seval, if_pos, if_neg, aStore, frz, AV.flat, ↓reduceIte, ne_eq, reduceCtorEq, ByteArray.size, treA, hX, hXl, unR, rdR, hn0'])
            have d16 : decide ((sy : Int) = 16) = false := decide_eq_false (by omega)
            by_cases e17 : sy = 17
            · subst e17
              obtain rfl : V = 0 := hV
              obtain rfl : N = 3 := hN1
              obtain rfl : Bt = 3 := hBt
              repeat (first | refine wA ?_ | refine wB ?_ | refine wC rfl ?_ | refine wD rfl ?_ | refine wE ?_ | refine wF (by omega) ?_ | ((first | refine wG ?_ | refine wH ?_ | refine wI ?_ | refine wJ ?_ | refine wK ?_ | refine wL ?_); simp (disch := omega) only [wP, wZ, undef, seval, if_pos, if_neg, aStore, frz, AV.flat, ↓reduceIte, ne_eq, reduceCtorEq, ByteArray.size, unR, treA]))
              refine goC_h [(1001, 0)] 2000 hN (by simp) (by simp) ?_ ?_ ?_
              iterate 2 (case _ => simp (disch := omega) only [wP, wZ, undef, seval, if_pos, if_neg, aStore, frz, AV.flat, ↓reduceIte, ne_eq, reduceCtorEq, ByteArray.size, rdR, ren_tree])
              repeat (first | refine wA ?_ | refine wB ?_ | refine wC rfl ?_ | refine wD rfl ?_ | refine wE ?_ | refine wF (by omega) ?_ | ((first | refine wG ?_ | refine wH ?_ | refine wI ?_ | refine wJ ?_ | refine wK ?_ | refine wL ?_); simp (disch := omega) only [wP, wZ, undef, seval, if_pos, if_neg, aStore, frz, AV.flat, ↓reduceIte, ne_eq, reduceCtorEq, ByteArray.size, unR, rdR]))
              refine goC_h [(1000, 0), (1001, 0), (1002, 0)] 3000 hA (by simp) (by simp) ?_ ?_ ?_
              iterate 2 (case _ => simp (disch := omega) only [wP, wZ, undef, seval, if_pos, if_neg, aStore, frz, AV.flat, ↓reduceIte, ne_eq, reduceCtorEq, ByteArray.size, unI, unR, rdR, ren_fxA])
              repeat (first | refine wA ?_ | refine wB ?_ | refine wC rfl ?_ | refine wD rfl ?_ | refine wE ?_ | refine wF (by omega) ?_ | ((first | refine wG ?_ | refine wH ?_ | refine wI ?_ | refine wJ ?_ | refine wK ?_ | refine wL ?_); simp (disch := omega) only [wP, wZ, undef, seval, if_pos, if_neg, aStore, frz, AV.flat, ↓reduceIte, ne_eq, reduceCtorEq, ByteArray.size, unO, unR, rdR, ren_fxA, okI, d3]))
              refine goC_f 65 (c + 100 + 40) (nl := false) (cells := [.sc (.int .i64 0)]) [.sl false none [.sc (.int .i64 ((0 : Nat) : Int))], int (a : Int)] _ (by simp (disch := omega) only [wP, wZ, undef, seval, if_pos, if_neg, aStore, frz, AV.flat, ↓reduceIte, ne_eq, reduceCtorEq, ByteArray.size, nA]) (by simp (disch := omega) only [wP, wZ, undef, seval, if_pos, if_neg, aStore, frz, AV.flat, ↓reduceIte, ne_eq, reduceCtorEq, ByteArray.size, nA]) ?_ (by simp (disch := omega) only [wP, wZ, undef, seval, if_pos, if_neg, aStore, frz, AV.flat, ↓reduceIte, ne_eq, reduceCtorEq, ByteArray.size]) hRp ?_
              · simp (disch := omega) only [wP, wZ, undef, seval, if_pos, if_neg, aStore, frz, AV.flat, ↓reduceIte, ne_eq, reduceCtorEq, ByteArray.size, fR, nA]
              repeat (first | refine wA ?_ | refine wB ?_ | refine wC rfl ?_ | refine wD rfl ?_ | refine wE ?_ | refine wF (by omega) ?_ | ((first | refine wG ?_ | refine wH ?_ | refine wI ?_ | refine wJ ?_ | refine wK ?_ | refine wL ?_); simp (disch := omega) only [wP, wZ, undef, seval, if_pos, if_neg, aStore, frz, AV.flat, ↓reduceIte, ne_eq, reduceCtorEq, ByteArray.size, hX, hXl, hem, Bool.and_false]))
              refine At.of (f, l ++ X, j, c + 100 + 40 + 1, c + 100 + 40 + 2) ⟨hx, hj, by simp only; omega, by simp only; omega, h18, by simp only; omega⟩ (by simp only; omega) rfl rfl ?_ ?_ ?_
              · simp only; omega
              iterate 2 (case _ => simp (disch := omega) only [wP, wZ, undef, seval, if_pos, if_neg, aStore, frz, AV.flat, ↓reduceIte, ne_eq, reduceCtorEq, ByteArray.size, treA, hX, hXl, unR, rdR, hn0'])
            have d17 : decide ((sy : Int) = 17) = false := decide_eq_false (by omega)
            by_cases e18 : sy = 18
            · subst e18
              obtain rfl : V = 0 := hV
              obtain rfl : N = 11 := hN1
              obtain rfl : Bt = 7 := hBt
              repeat (first | refine wA ?_ | refine wB ?_ | refine wC rfl ?_ | refine wD rfl ?_ | refine wE ?_ | refine wF (by omega) ?_ | ((first | refine wG ?_ | refine wH ?_ | refine wI ?_ | refine wJ ?_ | refine wK ?_ | refine wL ?_); simp (disch := omega) only [wP, wZ, undef, seval, if_pos, if_neg, aStore, frz, AV.flat, ↓reduceIte, ne_eq, reduceCtorEq, ByteArray.size, unR, treA]))
              refine goC_h [(1001, 0)] 2000 hN (by simp) (by simp) ?_ ?_ ?_
              iterate 2 (case _ => simp (disch := omega) only [wP, wZ, undef, seval, if_pos, if_neg, aStore, frz, AV.flat, ↓reduceIte, ne_eq, reduceCtorEq, ByteArray.size, rdR, ren_tree])
              repeat (first | refine wA ?_ | refine wB ?_ | refine wC rfl ?_ | refine wD rfl ?_ | refine wE ?_ | refine wF (by omega) ?_ | ((first | refine wG ?_ | refine wH ?_ | refine wI ?_ | refine wJ ?_ | refine wK ?_ | refine wL ?_); simp (disch := omega) only [wP, wZ, undef, seval, if_pos, if_neg, aStore, frz, AV.flat, ↓reduceIte, ne_eq, reduceCtorEq, ByteArray.size, unR, rdR]))
              refine goC_h [(1000, 0), (1001, 0), (1002, 0)] 3000 hA (by simp) (by simp) ?_ ?_ ?_
              iterate 2 (case _ => simp (disch := omega) only [wP, wZ, undef, seval, if_pos, if_neg, aStore, frz, AV.flat, ↓reduceIte, ne_eq, reduceCtorEq, ByteArray.size, unI, unR, rdR, ren_fxA])
              repeat (first | refine wA ?_ | refine wB ?_ | refine wC rfl ?_ | refine wD rfl ?_ | refine wE ?_ | refine wF (by omega) ?_ | ((first | refine wG ?_ | refine wH ?_ | refine wI ?_ | refine wJ ?_ | refine wK ?_ | refine wL ?_); simp (disch := omega) only [wP, wZ, undef, seval, if_pos, if_neg, aStore, frz, AV.flat, ↓reduceIte, ne_eq, reduceCtorEq, ByteArray.size, unO, unR, rdR, ren_fxA, okI, d3]))
              refine goC_f 65 (c + 100 + 40) (nl := false) (cells := [.sc (.int .i64 0)]) [.sl false none [.sc (.int .i64 ((0 : Nat) : Int))], int (a : Int)] _ (by simp (disch := omega) only [wP, wZ, undef, seval, if_pos, if_neg, aStore, frz, AV.flat, ↓reduceIte, ne_eq, reduceCtorEq, ByteArray.size, nA]) (by simp (disch := omega) only [wP, wZ, undef, seval, if_pos, if_neg, aStore, frz, AV.flat, ↓reduceIte, ne_eq, reduceCtorEq, ByteArray.size, nA]) ?_ (by simp (disch := omega) only [wP, wZ, undef, seval, if_pos, if_neg, aStore, frz, AV.flat, ↓reduceIte, ne_eq, reduceCtorEq, ByteArray.size]) hRp ?_
              · simp (disch := omega) only [wP, wZ, undef, seval, if_pos, if_neg, aStore, frz, AV.flat, ↓reduceIte, ne_eq, reduceCtorEq, ByteArray.size, fR, nA]
              repeat (first | refine wA ?_ | refine wB ?_ | refine wC rfl ?_ | refine wD rfl ?_ | refine wE ?_ | refine wF (by omega) ?_ | ((first | refine wG ?_ | refine wH ?_ | refine wI ?_ | refine wJ ?_ | refine wK ?_ | refine wL ?_); simp (disch := omega) only [wP, wZ, undef, seval, if_pos, if_neg, aStore, frz, AV.flat, ↓reduceIte, ne_eq, reduceCtorEq, ByteArray.size, hX, hXl, hem, Bool.and_false]))
              refine At.of (f, l ++ X, j, c + 100 + 40 + 1, c + 100 + 40 + 2) ⟨hx, hj, by simp only; omega, by simp only; omega, h18, by simp only; omega⟩ (by simp only; omega) rfl rfl ?_ ?_ ?_
              · simp only; omega
              iterate 2 (case _ => simp (disch := omega) only [wP, wZ, undef, seval, if_pos, if_neg, aStore, frz, AV.flat, ↓reduceIte, ne_eq, reduceCtorEq, ByteArray.size, treA, hX, hXl, unR, rdR, hn0'])
            have d18 : decide ((sy : Int) = 18) = false := decide_eq_false (by omega)
            obtain rfl : V = sy := by rw [hV, lsV, if_neg e16, if_neg (by omega)]
            obtain rfl : N = 1 := by rw [hN1, lsN, if_neg (by omega), if_neg e18]
            obtain rfl : Bt = 0 := by rw [hBt, lsB, if_neg e16, if_neg e17, if_neg e18]
            repeat (first | refine wA ?_ | refine wB ?_ | refine wC rfl ?_ | refine wD rfl ?_ | refine wE ?_ | refine wF (by omega) ?_ | ((first | refine wG ?_ | refine wH ?_ | refine wI ?_ | refine wJ ?_ | refine wK ?_ | refine wL ?_); simp (disch := omega) only [wP, wZ, undef, seval, if_pos, if_neg, aStore, frz, AV.flat, ↓reduceIte, ne_eq, reduceCtorEq, ByteArray.size, unR, treA]))
            refine goC_h [(1001, 0)] 2000 hN (by simp) (by simp) ?_ ?_ ?_
            iterate 2 (case _ => simp (disch := omega) only [wP, wZ, undef, seval, if_pos, if_neg, aStore, frz, AV.flat, ↓reduceIte, ne_eq, reduceCtorEq, ByteArray.size, rdR, ren_tree])
            repeat (first | refine wA ?_ | refine wB ?_ | refine wC rfl ?_ | refine wD rfl ?_ | refine wE ?_ | refine wF (by omega) ?_ | ((first | refine wG ?_ | refine wH ?_ | refine wI ?_ | refine wJ ?_ | refine wK ?_ | refine wL ?_); simp (disch := omega) only [wP, wZ, undef, seval, if_pos, if_neg, aStore, frz, AV.flat, ↓reduceIte, ne_eq, reduceCtorEq, ByteArray.size, unR, rdR, d16, d17, d18]))
            refine goC_h [(1000, 0), (1001, 0), (1002, 0)] 3000 hA (by simp) (by simp) ?_ ?_ ?_
            iterate 2 (case _ => simp (disch := omega) only [wP, wZ, undef, seval, if_pos, if_neg, aStore, frz, AV.flat, ↓reduceIte, ne_eq, reduceCtorEq, ByteArray.size, unI, unR, rdR, ren_fxA])
            repeat (first | refine wA ?_ | refine wB ?_ | refine wC rfl ?_ | refine wD rfl ?_ | refine wE ?_ | refine wF (by omega) ?_ | ((first | refine wG ?_ | refine wH ?_ | refine wI ?_ | refine wJ ?_ | refine wK ?_ | refine wL ?_); simp (disch := omega) only [wP, wZ, undef, seval, if_pos, if_neg, aStore, frz, AV.flat, ↓reduceIte, ne_eq, reduceCtorEq, ByteArray.size, unO, unR, rdR, ren_fxA, okI, d3]))
            refine goC_f 65 (c + 100 + 40) (nl := false) (cells := [nA V]) [.sl false none [.sc (.int .i64 (V : Int))], int (a : Int)] _ (by simp (disch := omega) only [wP, wZ, undef, seval, if_pos, if_neg, aStore, frz, AV.flat, ↓reduceIte, ne_eq, reduceCtorEq, ByteArray.size, nA]) (by simp (disch := omega) only [wP, wZ, undef, seval, if_pos, if_neg, aStore, frz, AV.flat, ↓reduceIte, ne_eq, reduceCtorEq, ByteArray.size, nA]) ?_ (by simp (disch := omega) only [wP, wZ, undef, seval, if_pos, if_neg, aStore, frz, AV.flat, ↓reduceIte, ne_eq, reduceCtorEq, ByteArray.size]) hRp ?_
            · simp (disch := omega) only [wP, wZ, undef, seval, if_pos, if_neg, aStore, frz, AV.flat, ↓reduceIte, ne_eq, reduceCtorEq, ByteArray.size, fR, nA]
            repeat (first | refine wA ?_ | refine wB ?_ | refine wC rfl ?_ | refine wD rfl ?_ | refine wE ?_ | refine wF (by omega) ?_ | ((first | refine wG ?_ | refine wH ?_ | refine wI ?_ | refine wJ ?_ | refine wK ?_ | refine wL ?_); simp (disch := omega) only [wP, wZ, undef, seval, if_pos, if_neg, aStore, frz, AV.flat, ↓reduceIte, ne_eq, reduceCtorEq, ByteArray.size, hX, hXl, hem, Bool.and_false]))
            refine At.of (f, l ++ X, j, c + 100 + 40 + 1, c + 100 + 40 + 2) ⟨hx, hj, by simp only; omega, by simp only; omega, h18, by simp only; omega⟩ (by simp only; omega) rfl rfl ?_ ?_ ?_
            · simp only; omega
            iterate 2 (case _ => simp (disch := omega) only [wP, wZ, undef, seval, if_pos, if_neg, aStore, frz, AV.flat, ↓reduceIte, ne_eq, reduceCtorEq, ByteArray.size, treA, hX, hXl, unR, rdR, hn0'])
    · simp only [nxtR, if_neg c2, BR.bnd] at hx
      have de : decide ((e : Int) = 0) = false := decide_eq_false (by omega)
      subst hx
      repeat (first | refine wA ?_ | refine wB ?_ | refine wC rfl ?_ | refine wD rfl ?_ | refine wE ?_ | refine wF (by omega) ?_ | ((first | refine wG ?_ | refine wH ?_ | refine wI ?_ | refine wJ ?_ | refine wK ?_ | refine wL ?_); simp (disch := omega) only [wP, wZ, undef, seval, if_pos, if_neg, aStore, frz, AV.flat, ↓reduceIte, ne_eq, reduceCtorEq, ByteArray.size, unR, treA]))
      refine goC_h [(1001, 0)] 2000 hN (by simp) (by simp) ?_ ?_ ?_
      iterate 2 (case _ => simp (disch := omega) only [wP, wZ, undef, seval, if_pos, if_neg, aStore, frz, AV.flat, ↓reduceIte, ne_eq, reduceCtorEq, ByteArray.size, rdR, ren_tree])
      repeat (first | refine wA ?_ | refine wB ?_ | refine wC rfl ?_ | refine wD rfl ?_ | refine wE ?_ | refine wF (by omega) ?_ | ((first | refine wG ?_ | refine wH ?_ | refine wI ?_ | refine wJ ?_ | refine wK ?_ | refine wL ?_); simp (disch := omega) only [wP, wZ, undef, seval, if_pos, if_neg, aStore, frz, AV.flat, ↓reduceIte, ne_eq, reduceCtorEq, ByteArray.size, ansL, houP, de]))
      omega
  · simp only [decide_eq_false_iff_not] at h
    have hle : n ≤ l.length := by omega
    rw [if_pos hle] at hx
    simp only [BT.run] at hx
    subst hx
    have hn1 : nl0 l.length = false := nl0_pos (by omega)
    have htk : l.take l.length = l := List.take_length
    refine SWp.frzo 8 g (nl := false) (cells := l.map nA) (by simp (disch := omega) only [wP, wZ, undef, seval, if_pos, if_neg, aStore, frz, AV.flat, ↓reduceIte, ne_eq, reduceCtorEq, ByteArray.size, hn1]) free_nA ?_
    refine SWp.le (le_mk (N := 70) (gc := c) (l := [(8, .sl false none (l.map nA))]) (h := [(1000, 0, .row false (unR t most 0 out.length)), (1001, 0, .row false (rdR nl b p)), (1002, 0, .row (nl0 out.length) (out.map u8))]) rfl ?_ ?_ ?_) ?_
    · exact Nat.le_refl _
    iterate 2 (case _ => simp (disch := omega) only [wP, wZ, undef, seval, if_pos, if_neg, aStore, frz, AV.flat, ↓reduceIte, ne_eq, reduceCtorEq, ByteArray.size, fR, iR, htk, unR, rdR, fzo_fxA, false_and])
    repeat (first | refine wA ?_ | refine wB ?_ | refine wC rfl ?_ | refine wD rfl ?_ | refine wE ?_ | refine wF (by omega) ?_ | ((first | refine wG ?_ | refine wH ?_ | refine wI ?_ | refine wJ ?_ | refine wK ?_ | refine wL ?_); simp (disch := omega) only [wP, wZ, undef, seval, if_pos, if_neg, aStore, frz, AV.flat, ↓reduceIte, ne_eq, reduceCtorEq, ByteArray.size, ansL, houP, unO, unR, rdR]))
    omega
end Go.Proofs.YtokdmakljdhjiaaDoor.Aw
