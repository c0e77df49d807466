/- Contracts: (*unpacker).symbols. -/
import Derived.Test.YtokdmakljdhjiaaDoorInfC
namespace Go.Proofs.YtokdmakljdhjiaaDoor.Aw
open Go
set_option linter.unusedSimpArgs false
set_option linter.unusedVariables false

def ansE {α : Type} : BR α → AV
  | .ok _ _ => int 0
  | .no e => int (e : Int)
def houS (K : Nat) (t : Bool) (most : Nat) (nl : Bool) (b : List UInt8) : BR (List UInt8) → List (Nat × Nat × AO)
  | .ok o j => unO K t most nl b j o
  | .no _ => []

set_option maxHeartbeats 1000000 in
set_option maxRecDepth 100000 in
theorem inf_symbols_h [Tabs Tryd.prog] (t : Bool) (most : Nat) (hm : most ≤ 16777216) (nl : Bool) (b : List UInt8) (hb : b.length ≤ 1000000) (i : Nat) (hi : i ≤ 8 * b.length) (out : List UInt8) (ho : out.length ≤ most)
    (l d : List Nat) (hl : l.length ≤ 320) (hKl : kraft l ≤ 32768) (hd : d.length ≤ 320) (hK : kraft d ≤ 32768) (F : Nat) (hF : 8 * b.length - i < F) (r : BR (List UInt8)) (hr : (symT l d most F out).run (bitsL b) i = r) :
    HCon Tryd.prog n_inflate_unpacker_symbols [.op 1000 0 0, cds l d] (unI t most nl b i out) (ansE r) (houS (1000 * F + 1) t most nl b r) (1000 * F + 2) := by
  refine HCon.of' mix Tryd.func24 rfl Tryd.ntmps24 e_inflate_unpacker_symbols r_inflate_unpacker_symbols (by simp) (by simp only [AV.gl.glL, AV.gl, and_true]; exact ⟨by omega, gl_of_free 1 _ free_cds⟩) un_gl ?_
  unfold s_inflate_unpacker_symbols
  repeat (first | refine wA ?_ | refine wB ?_ | refine wC rfl ?_ | refine wD rfl ?_ | refine wE ?_ | refine wF (by omega) ?_ | ((first | refine wG ?_ | refine wH ?_ | refine wI ?_ | refine wJ ?_ | refine wK ?_ | refine wL ?_); simp (disch := omega) only [wP, wZ, undef, seval, if_pos, if_neg, aStore, frz, AV.flat, ↓reduceIte, ne_eq, reduceCtorEq, ByteArray.size]))
  refine SWp.loop (α := Nat × List UInt8 × Nat × Nat × Nat) (fun x => mk 45 x.2.2.2.2 [(0, .op 1000 0 0), (1, cds l d)] [(1000, 0, .row false (unR t most x.2.2.2.1 x.2.1.length)), (1001, 0, .row false (rdR nl b x.2.2.1)), (1002, x.2.2.2.1, .row (nl0 x.2.1.length) (x.2.1.map u8))])
    (fun x => (symT l d most x.1 x.2.1).run (bitsL b) x.2.2.1 = r ∧ x.2.2.1 ≤ 8 * b.length ∧ 8 * b.length - x.2.2.1 < x.1 ∧ x.2.1.length ≤ most ∧ x.2.2.2.2 + 1000 * x.1 ≤ 1000 * F + 1) (fun x => x.1) (F, out, i, 0, 1) ⟨hr, hi, hF, ho, by simp only; omega⟩ (le_mk rfl ?_ ?_ ?_) ?_
  · exact Nat.le_refl _
  iterate 2 (case _ => simp (disch := omega) only [wP, wZ, undef, seval, if_pos, if_neg, aStore, frz, AV.flat, ↓reduceIte, ne_eq, reduceCtorEq, ByteArray.size, unI])
  rintro ⟨f, o, p, g, c⟩ ⟨hx, hp, hf, hom, hc⟩ -
  simp only at hx hp hf hom hc
  obtain ⟨f, rfl⟩ : ∃ f', f = f' + 1 := ⟨f - 1, by omega⟩
  rw [symT, run_bnd, run_nxt] at hx
  have hfc := nxt_facts (l := l) (B := (bitsL b).drop p) 15 0 0 (Nat.zero_le _)
  have hsy := nxt_sym (l := l) (B := (bitsL b).drop p) 15 0 0
  have hN := huff_Next_h l hl hKl nl b hb p hp _ rfl
  rw [List.length_drop, length_bitsL] at hfc
  obtain ⟨⟨sy, m, e⟩, hr2⟩ : ∃ r, r = nxt l ((bitsL b).drop p) 15 0 0 := ⟨_, rfl⟩
  rw [← hr2] at hfc hsy hN hx
  simp only at hfc hsy hN
  clear hr2 hr
  by_cases c2 : e = 0
  · subst c2
    have hsy := hsy rfl
    obtain ⟨q, hq⟩ : ∃ q, q = p + m := ⟨_, rfl⟩
    have hq8 : q ≤ 8 * b.length := by omega
    simp only [nxtR, if_true, BR.bnd] at hx
    rw [← hq] at hN hx
    by_cases c3 : sy < 256
    · rw [if_pos c3] at hx
      have d3 : decide ((sy : Int) < 256) = true := decide_eq_true (by omega)
      obtain ⟨v, rfl⟩ : ∃ v : UInt8, sy = v.toNat := ⟨UInt8.ofNat sy, by rw [UInt8.toNat_ofNat', Nat.mod_eq_of_lt (by omega)]⟩
      rw [UInt8.ofNat_toNat] at hx
      have hv := v.toNat_lt
      by_cases c4 : most ≤ o.length
      · rw [if_pos c4] at hx
        simp only [BT.run] at hx
        subst hx
        have hL := inf_literal_no t most hm nl b q o hom v c4
        repeat (first | refine wA ?_ | refine wB ?_ | refine wC rfl ?_ | refine wD rfl ?_ | refine wE ?_ | refine wF (by omega) ?_ | ((first | refine wG ?_ | refine wH ?_ | refine wI ?_ | refine wJ ?_ | refine wK ?_ | refine wL ?_); simp (disch := omega) only [wP, wZ, undef, seval, if_pos, if_neg, aStore, frz, AV.flat, ↓reduceIte, ne_eq, reduceCtorEq, ByteArray.size, cds, unR]))
        refine goC_h [(1001, 0)] 2000 hN (by simp) (by simp) ?_ ?_ ?_
        iterate 2 (case _ => simp (disch := omega) only [wP, wZ, undef, seval, if_pos, if_neg, aStore, frz, AV.flat, ↓reduceIte, ne_eq, reduceCtorEq, ByteArray.size, rdR, ren_tree])
        repeat (first | refine wA ?_ | refine wB ?_ | refine wC rfl ?_ | refine wD rfl ?_ | refine wE ?_ | refine wF (by omega) ?_ | ((first | refine wG ?_ | refine wH ?_ | refine wI ?_ | refine wJ ?_ | refine wK ?_ | refine wL ?_); simp (disch := omega) only [wP, wZ, undef, seval, if_pos, if_neg, aStore, frz, AV.flat, ↓reduceIte, ne_eq, reduceCtorEq, ByteArray.size, unR, rdR, d3]))
        refine goC_h [(1000, 0), (1001, 0), (1002, g)] 3000 hL (by simp) (by simp) ?_ ?_ ?_
        iterate 2 (case _ => simp (disch := omega) only [wP, wZ, undef, seval, if_pos, if_neg, aStore, frz, AV.flat, ↓reduceIte, ne_eq, reduceCtorEq, ByteArray.size, unI, unR, rdR, ren_fxA])
        repeat (first | refine wA ?_ | refine wB ?_ | refine wC rfl ?_ | refine wD rfl ?_ | refine wE ?_ | refine wF (by omega) ?_ | ((first | refine wG ?_ | refine wH ?_ | refine wI ?_ | refine wJ ?_ | refine wK ?_ | refine wL ?_); simp (disch := omega) only [wP, wZ, undef, seval, if_pos, if_neg, aStore, frz, AV.flat, ↓reduceIte, ne_eq, reduceCtorEq, ByteArray.size, ansE, houS]))
        omega
      · rw [if_neg c4] at hx
        have hL := inf_literal_h t most hm nl b q o (by omega) v
        repeat (first | refine wA ?_ | refine wB ?_ | refine wC rfl ?_ | refine wD rfl ?_ | refine wE ?_ | refine wF (by omega) ?_ | ((first | refine wG ?_ | refine wH ?_ | refine wI ?_ | refine wJ ?_ | refine wK ?_ | refine wL ?_); simp (disch := omega) only [wP, wZ, undef, seval, if_pos, if_neg, aStore, frz, AV.flat, ↓reduceIte, ne_eq, reduceCtorEq, ByteArray.size, cds, unR]))
        refine goC_h [(1001, 0)] 2000 hN (by simp) (by simp) ?_ ?_ ?_
        iterate 2 (case _ => simp (disch := omega) only [wP, wZ, undef, seval, if_pos, if_neg, aStore, frz, AV.flat, ↓reduceIte, ne_eq, reduceCtorEq, ByteArray.size, rdR, ren_tree])
        repeat (first | refine wA ?_ | refine wB ?_ | refine wC rfl ?_ | refine wD rfl ?_ | refine wE ?_ | refine wF (by omega) ?_ | ((first | refine wG ?_ | refine wH ?_ | refine wI ?_ | refine wJ ?_ | refine wK ?_ | refine wL ?_); simp (disch := omega) only [wP, wZ, undef, seval, if_pos, if_neg, aStore, frz, AV.flat, ↓reduceIte, ne_eq, reduceCtorEq, ByteArray.size, unR, rdR, d3]))
        refine goC_h [(1000, 0), (1001, 0), (1002, g)] 3000 hL (by simp) (by simp) ?_ ?_ ?_
        iterate 2 (case _ => simp (disch := omega) only [wP, wZ, undef, seval, if_pos, if_neg, aStore, frz, AV.flat, ↓reduceIte, ne_eq, reduceCtorEq, ByteArray.size, unI, unR, rdR, ren_fxA])
        repeat (first | refine wA ?_ | refine wB ?_ | refine wC rfl ?_ | refine wD rfl ?_ | refine wE ?_ | refine wF (by omega) ?_ | ((first | refine wG ?_ | refine wH ?_ | refine wI ?_ | refine wJ ?_ | refine wK ?_ | refine wL ?_); simp (disch := omega) only [wP, wZ, undef, seval, if_pos, if_neg, aStore, frz, AV.flat, ↓reduceIte, ne_eq, reduceCtorEq, ByteArray.size, unO, unR, rdR, ren_fxA]))
        refine At.of (f, o ++ [v], q, c + 100 + 2, c + 110) ⟨hx, hq8, by simp only; omega, by simp only [List.length_append, List.length_singleton]; omega, by simp only; omega⟩ (by simp only; omega) rfl rfl ?_ ?_ ?_
        · simp only; omega
        iterate 2 (case _ => simp (disch := omega) only [wP, wZ, undef, seval, if_pos, if_neg, aStore, frz, AV.flat, ↓reduceIte, ne_eq, reduceCtorEq, ByteArray.size, cds, unR, rdR, nl0_succ])
    · rw [if_neg c3] at hx
      have d3 : decide ((sy : Int) < 256) = false := decide_eq_false (by omega)
      by_cases c4 : sy = 256
      · rw [if_pos c4] at hx
        simp only [BT.run] at hx
        subst hx c4
        repeat (first | refine wA ?_ | refine wB ?_ | refine wC rfl ?_ | refine wD rfl ?_ | refine wE ?_ | refine wF (by omega) ?_ | ((first | refine wG ?_ | refine wH ?_ | refine wI ?_ | refine wJ ?_ | refine wK ?_ | refine wL ?_); simp (disch := omega) only [wP, wZ, undef, seval, if_pos, if_neg, aStore, frz, AV.flat, ↓reduceIte, ne_eq, reduceCtorEq, ByteArray.size, cds, unR]))
        refine goC_h [(1001, 0)] 2000 hN (by simp) (by simp) ?_ ?_ ?_
        iterate 2 (case _ => simp (disch := omega) only [wP, wZ, undef, seval, if_pos, if_neg, aStore, frz, AV.flat, ↓reduceIte, ne_eq, reduceCtorEq, ByteArray.size, rdR, ren_tree])
        iterate 1 (first | refine wA ?_ | refine wB ?_ | refine wC rfl ?_ | refine wD rfl ?_ | refine wE ?_ | refine wF (by omega) ?_ | ((first | refine wG ?_ | refine wH ?_ | refine wI ?_ | refine wJ ?_ | refine wK ?_ | refine wL ?_); simp (disch := omega) only [wP, wZ, undef, seval, if_pos, if_neg, aStore, frz, AV.flat, ↓reduceIte, ne_eq, reduceCtorEq, ByteArray.size, unR, rdR]))
        refine SWp.le (le_mk (N := 45) (gc := 1000 * F + 1) (l := [(0, .op 1000 0 0), (5, int 256), (6, int 0)]) (h := [(1000, 0, .row false (unR t most g o.length)), (1001, 0, .row false (rdR nl b q)), (1002, g, .row (nl0 o.length) (o.map u8))]) rfl ?_ ?_ ?_) ?_
        · simp only; omega
        iterate 2 (case _ => simp (disch := omega) only [wP, wZ, undef, seval, if_pos, if_neg, aStore, frz, AV.flat, ↓reduceIte, ne_eq, reduceCtorEq, ByteArray.size, unR, rdR])
        refine SWp.renew 1002 g (o := .row (nl0 o.length) (o.map u8)) (by simp (disch := omega) only [wP, wZ, undef, seval, if_pos, if_neg, aStore, frz, AV.flat, ↓reduceIte, ne_eq, reduceCtorEq, ByteArray.size]) ?_
        refine SWp.le (le_mk (N := 45) (gc := 1000 * F + 2) (l := [(0, .op 1000 0 0), (5, int 256), (6, int 0)]) (h := [(1000, 0, .row false (unR t most (1000 * F + 1) o.length)), (1001, 0, .row false (rdR nl b q)), (1002, 1000 * F + 1, .row (nl0 o.length) (o.map u8))]) rfl ?_ ?_ ?_) ?_
        · exact Nat.le_refl _
        iterate 2 (case _ => simp (disch := omega) only [wP, wZ, undef, seval, if_pos, if_neg, aStore, frz, AV.flat, ↓reduceIte, ne_eq, reduceCtorEq, ByteArray.size, rgn_eq, rgH_at, unR, rdR, ren_fxA])
        repeat (first | refine wA ?_ | refine wB ?_ | refine wC rfl ?_ | refine wD rfl ?_ | refine wE ?_ | refine wF (by omega) ?_ | ((first | refine wG ?_ | refine wH ?_ | refine wI ?_ | refine wJ ?_ | refine wK ?_ | refine wL ?_); simp (disch := omega) only [wP, wZ, undef, seval, if_pos, if_neg, aStore, frz, AV.flat, ↓reduceIte, ne_eq, reduceCtorEq, ByteArray.size, ansE, houS, unO, unR, rdR]))
      · rw [if_neg c4] at hx
        have d4 : decide ((sy : Int) = 256) = false := decide_eq_false (by omega)
        have es : (sy : Int) - 256 - 1 = ((sy - 257 : Nat) : Int) := by omega
        rw [run_bnd] at hx
        have hR := inf_run_a t most hm nl b hb q hq8 o hom (sy - 257) (by omega) d hd hK
        obtain ⟨z, hz⟩ : ∃ z, z = sy - 257 := ⟨_, rfl⟩
        rw [← hz] at hR hx es
        have hRi := fun a j (h : (runT most d o z).run (bitsL b) q = .ok a j) => run_ok h
        have hRm := fun a j (h : (runT most d o z).run (bitsL b) q = .ok a j) => runT_le h
        rw [length_bitsL] at hRi
        obtain ⟨r3, hr3⟩ : ∃ r, r = (runT most d o z).run (bitsL b) q := ⟨_, rfl⟩
        rw [← hr3] at hR hRi hRm hx
        cases r3 with
        | no e3 =>
          simp only [BR.bnd] at hx
          subst hx
          have de : decide ((e3 : Int) = 0) = false := decide_eq_false (by have := hR.1; omega)
          repeat (first | refine wA ?_ | refine wB ?_ | refine wC rfl ?_ | refine wD rfl ?_ | refine wE ?_ | refine wF (by omega) ?_ | ((first | refine wG ?_ | refine wH ?_ | refine wI ?_ | refine wJ ?_ | refine wK ?_ | refine wL ?_); simp (disch := omega) only [wP, wZ, undef, seval, if_pos, if_neg, aStore, frz, AV.flat, ↓reduceIte, ne_eq, reduceCtorEq, ByteArray.size, cds, unR]))
          refine goC_h [(1001, 0)] 2000 hN (by simp) (by simp) ?_ ?_ ?_
          iterate 2 (case _ => simp (disch := omega) only [wP, wZ, undef, seval, if_pos, if_neg, aStore, frz, AV.flat, ↓reduceIte, ne_eq, reduceCtorEq, ByteArray.size, rdR, ren_tree])
          repeat (first | refine wA ?_ | refine wB ?_ | refine wC rfl ?_ | refine wD rfl ?_ | refine wE ?_ | refine wF (by omega) ?_ | ((first | refine wG ?_ | refine wH ?_ | refine wI ?_ | refine wJ ?_ | refine wK ?_ | refine wL ?_); simp (disch := omega) only [wP, wZ, undef, seval, if_pos, if_neg, aStore, frz, AV.flat, ↓reduceIte, ne_eq, reduceCtorEq, ByteArray.size, unR, rdR, d3, d4, es]))
          refine goC_h [(1000, 0), (1001, 0), (1002, g)] 3000 hR.2 (by simp) (by simp) ?_ ?_ ?_
          iterate 2 (case _ => simp (disch := omega) only [wP, wZ, undef, seval, if_pos, if_neg, aStore, frz, AV.flat, ↓reduceIte, ne_eq, reduceCtorEq, ByteArray.size, unI, unR, rdR, ren_fxA, ren_tree])
          repeat (first | refine wA ?_ | refine wB ?_ | refine wC rfl ?_ | refine wD rfl ?_ | refine wE ?_ | refine wF (by omega) ?_ | ((first | refine wG ?_ | refine wH ?_ | refine wI ?_ | refine wJ ?_ | refine wK ?_ | refine wL ?_); simp (disch := omega) only [wP, wZ, undef, seval, if_pos, if_neg, aStore, frz, AV.flat, ↓reduceIte, ne_eq, reduceCtorEq, ByteArray.size, ansE, houS, de]))
          omega
        | ok o2 j =>
          have hj := hRi o2 j rfl
          have hm2 := hRm o2 j rfl
          simp only [BR.bnd] at hx
          repeat (first | refine wA ?_ | refine wB ?_ | refine wC rfl ?_ | refine wD rfl ?_ | refine wE ?_ | refine wF (by omega) ?_ | ((first | refine wG ?_ | refine wH ?_ | refine wI ?_ | refine wJ ?_ | refine wK ?_ | refine wL ?_); simp (disch := omega) only [wP, wZ, undef, seval, if_pos, if_neg, aStore, frz, AV.flat, ↓reduceIte, ne_eq, reduceCtorEq, ByteArray.size, cds, unR]))
          refine goC_h [(1001, 0)] 2000 hN (by simp) (by simp) ?_ ?_ ?_
          iterate 2 (case _ => simp (disch := omega) only [wP, wZ, undef, seval, if_pos, if_neg, aStore, frz, AV.flat, ↓reduceIte, ne_eq, reduceCtorEq, ByteArray.size, rdR, ren_tree])
          repeat (first | refine wA ?_ | refine wB ?_ | refine wC rfl ?_ | refine wD rfl ?_ | refine wE ?_ | refine wF (by omega) ?_ | ((first | refine wG ?_ | refine wH ?_ | refine wI ?_ | refine wJ ?_ | refine wK ?_ | refine wL ?_); simp (disch := omega) only [wP, wZ, undef, seval, if_pos, if_neg, aStore, frz, AV.flat, ↓reduceIte, ne_eq, reduceCtorEq, ByteArray.size, unR, rdR, d3, d4, es]))
          refine goC_h [(1000, 0), (1001, 0), (1002, g)] 3000 hR (by simp) (by simp) ?_ ?_ ?_
          iterate 2 (case _ => simp (disch := omega) only [wP, wZ, undef, seval, if_pos, if_neg, aStore, frz, AV.flat, ↓reduceIte, ne_eq, reduceCtorEq, ByteArray.size, unI, unR, rdR, ren_fxA, ren_tree])
          repeat (first | refine wA ?_ | refine wB ?_ | refine wC rfl ?_ | refine wD rfl ?_ | refine wE ?_ | refine wF (by omega) ?_ | ((first | refine wG ?_ | refine wH ?_ | refine wI ?_ | refine wJ ?_ | refine wK ?_ | refine wL ?_); simp (disch := omega) only [wP, wZ, undef, seval, if_pos, if_neg, aStore, frz, AV.flat, ↓reduceIte, ne_eq, reduceCtorEq, ByteArray.size, unO, unR, rdR, ren_fxA]))
          refine At.of (f, o2, j, c + 100 + 500, c + 700) ⟨hx, hj.2 hq8, by simp only; omega, hm2, by simp only; omega⟩ (by simp only; omega) rfl rfl ?_ ?_ ?_
          · simp only; omega
          iterate 2 (case _ => simp (disch := omega) only [wP, wZ, undef, seval, if_pos, if_neg, aStore, frz, AV.flat, ↓reduceIte, ne_eq, reduceCtorEq, ByteArray.size, cds, unR, rdR])
  · simp only [nxtR, if_neg c2, BR.bnd] at hx
    have de : decide ((e : Int) = 0) = false := decide_eq_false (by omega)
    subst hx
    repeat (first | refine wA ?_ | refine wB ?_ | refine wC rfl ?_ | refine wD rfl ?_ | refine wE ?_ | refine wF (by omega) ?_ | ((first | refine wG ?_ | refine wH ?_ | refine wI ?_ | refine wJ ?_ | refine wK ?_ | refine wL ?_); simp (disch := omega) only [wP, wZ, undef, seval, if_pos, if_neg, aStore, frz, AV.flat, ↓reduceIte, ne_eq, reduceCtorEq, ByteArray.size, cds, unR]))
    refine goC_h [(1001, 0)] 2000 hN (by simp) (by simp) ?_ ?_ ?_
    iterate 2 (case _ => simp (disch := omega) only [wP, wZ, undef, seval, if_pos, if_neg, aStore, frz, AV.flat, ↓reduceIte, ne_eq, reduceCtorEq, ByteArray.size, rdR, ren_tree])
    repeat (first | refine wA ?_ | refine wB ?_ | refine wC rfl ?_ | refine wD rfl ?_ | refine wE ?_ | refine wF (by omega) ?_ | ((first | refine wG ?_ | refine wH ?_ | refine wI ?_ | refine wJ ?_ | refine wK ?_ | refine wL ?_); simp (disch := omega) only [wP, wZ, undef, seval, if_pos, if_neg, aStore, frz, AV.flat, ↓reduceIte, ne_eq, reduceCtorEq, ByteArray.size, ansE, houS, de]))
    omega
end Go.Proofs.YtokdmakljdhjiaaDoor.Aw

namespace Go.Proofs.YtokdmakljdhjiaaDoor.Aw
open Go
set_option linter.unusedSimpArgs false
set_option linter.unusedVariables false

set_option maxHeartbeats 1000000 in
set_option maxRecDepth 100000 in
theorem inf_stored_h [Tabs Tryd.prog] (t : Bool) (most : Nat) (hm : most ≤ 16777216) (nl : Bool) (b : List UInt8) (hb : b.length ≤ 1000000) (hnl : nl = true → b = []) (i : Nat) (hi : i ≤ 8 * b.length) (out : List UInt8) (ho : out.length ≤ most) (r : BR (List UInt8)) (hr : (stoT most out).run (bitsL b) i = r) :
    HCon Tryd.prog n_inflate_unpacker_stored [.op 1000 0 0] (unI t most nl b i out) (ansE r) (houS 73 t most nl b r) 80 := by
  refine HCon.of' mix Tryd.func22 rfl Tryd.ntmps22 e_inflate_unpacker_stored r_inflate_unpacker_stored (by simp) (by simp [AV.gl, AV.gl.glL]) un_gl ?_
  unfold s_inflate_unpacker_stored
  rw [run_stoT hi] at hr
  obtain ⟨q, hq⟩ : ∃ q, q = (i + 7) / 8 := ⟨_, rfl⟩
  rw [← hq] at hr
  have hAl := huff_Align_h nl b hb i hi
  rw [← hq] at hAl
  repeat (first | refine wA ?_ | refine wB ?_ | refine wC rfl ?_ | refine wD rfl ?_ | refine wE ?_ | refine wF (by omega) ?_ | ((first | refine wG ?_ | refine wH ?_ | refine wI ?_ | refine wJ ?_ | refine wK ?_ | refine wL ?_); simp (disch := omega) only [wP, wZ, undef, seval, if_pos, if_neg, aStore, frz, AV.flat, ↓reduceIte, ne_eq, reduceCtorEq, ByteArray.size, unI, unR]))
  refine goC_h [(1001, 0)] 2000 hAl (by simp) (by simp) ?_ ?_ ?_
  iterate 2 (case _ => simp (disch := omega) only [wP, wZ, undef, seval, if_pos, if_neg, aStore, frz, AV.flat, ↓reduceIte, ne_eq, reduceCtorEq, ByteArray.size, rdR])
  by_cases c1 : 8 * b.length < q * 8 + 16
  · rw [if_pos c1] at hr
    subst hr
    have hT := huff_Take_no nl b hb (q * 8) (by omega) 16 (decide_eq_false (by omega))
    repeat (first | refine wA ?_ | refine wB ?_ | refine wC rfl ?_ | refine wD rfl ?_ | refine wE ?_ | refine wF (by omega) ?_ | ((first | refine wG ?_ | refine wH ?_ | refine wI ?_ | refine wJ ?_ | refine wK ?_ | refine wL ?_); simp (disch := omega) only [wP, wZ, undef, seval, if_pos, if_neg, aStore, frz, AV.flat, ↓reduceIte, ne_eq, reduceCtorEq, ByteArray.size, rdR, unR]))
    refine goC_h [(1001, 0)] 3000 hT (by simp) (by simp) ?_ ?_ ?_
    iterate 2 (case _ => simp (disch := omega) only [wP, wZ, undef, seval, if_pos, if_neg, aStore, frz, AV.flat, ↓reduceIte, ne_eq, reduceCtorEq, ByteArray.size, rdR])
    repeat (first | refine wA ?_ | refine wB ?_ | refine wC rfl ?_ | refine wD rfl ?_ | refine wE ?_ | refine wF (by omega) ?_ | ((first | refine wG ?_ | refine wH ?_ | refine wI ?_ | refine wJ ?_ | refine wK ?_ | refine wL ?_); simp (disch := omega) only [wP, wZ, undef, seval, if_pos, if_neg, aStore, frz, AV.flat, ↓reduceIte, ne_eq, reduceCtorEq, ByteArray.size, ansE, houS]))
  · rw [if_neg c1] at hr
    have hT := huff_Take_h nl b hb (q * 8) (by omega) 16 (by omega) (by omega)
    have hx1 := numAt_lt (b := b) (i := q * 8) (n := 16)
    obtain ⟨x, hx⟩ : ∃ x, x = numAt b (q * 8) 16 := ⟨_, rfl⟩
    rw [← hx] at hT hr hx1
    repeat (first | refine wA ?_ | refine wB ?_ | refine wC rfl ?_ | refine wD rfl ?_ | refine wE ?_ | refine wF (by omega) ?_ | ((first | refine wG ?_ | refine wH ?_ | refine wI ?_ | refine wJ ?_ | refine wK ?_ | refine wL ?_); simp (disch := omega) only [wP, wZ, undef, seval, if_pos, if_neg, aStore, frz, AV.flat, ↓reduceIte, ne_eq, reduceCtorEq, ByteArray.size, rdR, unR]))
    refine goC_h [(1001, 0)] 3000 hT (by simp) (by simp) ?_ ?_ ?_
    iterate 2 (case _ => simp (disch := omega) only [wP, wZ, undef, seval, if_pos, if_neg, aStore, frz, AV.flat, ↓reduceIte, ne_eq, reduceCtorEq, ByteArray.size, rdR])
    by_cases c2 : 8 * b.length < q * 8 + 32
    · rw [if_pos c2] at hr
      subst hr
      have hT := huff_Take_no nl b hb (q * 8 + 16) (by omega) 16 (decide_eq_false (by omega))
      repeat (first | refine wA ?_ | refine wB ?_ | refine wC rfl ?_ | refine wD rfl ?_ | refine wE ?_ | refine wF (by omega) ?_ | ((first | refine wG ?_ | refine wH ?_ | refine wI ?_ | refine wJ ?_ | refine wK ?_ | refine wL ?_); simp (disch := omega) only [wP, wZ, undef, seval, if_pos, if_neg, aStore, frz, AV.flat, ↓reduceIte, ne_eq, reduceCtorEq, ByteArray.size, rdR, unR]))
      refine goC_h [(1001, 0)] 4000 hT (by simp) (by simp) ?_ ?_ ?_
      iterate 2 (case _ => simp (disch := omega) only [wP, wZ, undef, seval, if_pos, if_neg, aStore, frz, AV.flat, ↓reduceIte, ne_eq, reduceCtorEq, ByteArray.size, rdR])
      repeat (first | refine wA ?_ | refine wB ?_ | refine wC rfl ?_ | refine wD rfl ?_ | refine wE ?_ | refine wF (by omega) ?_ | ((first | refine wG ?_ | refine wH ?_ | refine wI ?_ | refine wJ ?_ | refine wK ?_ | refine wL ?_); simp (disch := omega) only [wP, wZ, undef, seval, if_pos, if_neg, aStore, frz, AV.flat, ↓reduceIte, ne_eq, reduceCtorEq, ByteArray.size, ansE, houS]))
    · rw [if_neg c2] at hr
      have hT := huff_Take_h nl b hb (q * 8 + 16) (by omega) 16 (by omega) (by omega)
      have hy1 := numAt_lt (b := b) (i := q * 8 + 16) (n := 16)
      obtain ⟨y, hy⟩ : ∃ y, y = numAt b (q * 8 + 16) 16 := ⟨_, rfl⟩
      rw [← hy] at hT hr hy1
      repeat (first | refine wA ?_ | refine wB ?_ | refine wC rfl ?_ | refine wD rfl ?_ | refine wE ?_ | refine wF (by omega) ?_ | ((first | refine wG ?_ | refine wH ?_ | refine wI ?_ | refine wJ ?_ | refine wK ?_ | refine wL ?_); simp (disch := omega) only [wP, wZ, undef, seval, if_pos, if_neg, aStore, frz, AV.flat, ↓reduceIte, ne_eq, reduceCtorEq, ByteArray.size, rdR, unR]))
      refine goC_h [(1001, 0)] 4000 hT (by simp) (by simp) ?_ ?_ ?_
      iterate 2 (case _ => simp (disch := omega) only [wP, wZ, undef, seval, if_pos, if_neg, aStore, frz, AV.flat, ↓reduceIte, ne_eq, reduceCtorEq, ByteArray.size, rdR])
      by_cases c3 : x + y ≠ 65535
      · rw [if_pos c3] at hr
        subst hr
        have d3 : decide ((x : Int) + (y : Int) = 65535) = false := decide_eq_false (by omega)
        repeat (first | refine wA ?_ | refine wB ?_ | refine wC rfl ?_ | refine wD rfl ?_ | refine wE ?_ | refine wF (by omega) ?_ | ((first | refine wG ?_ | refine wH ?_ | refine wI ?_ | refine wJ ?_ | refine wK ?_ | refine wL ?_); simp (disch := omega) only [wP, wZ, undef, seval, if_pos, if_neg, aStore, frz, AV.flat, ↓reduceIte, ne_eq, reduceCtorEq, ByteArray.size, ansE, houS, d3]))
      · rw [if_neg c3] at hr
        have d3 : decide ((x : Int) + (y : Int) = 65535) = true := decide_eq_true (by omega)
        have ej : q + 4 = (q * 8 + 16 + 16 + 7) / 8 := by omega
        by_cases c4 : b.length < q + 4 + x
        · rw [if_pos c4] at hr
          subst hr
          have hB := huff_Bytes_no nl b hb (q * 8 + 16 + 16) (by omega) (x : Int) (decide_eq_false (by omega))
          repeat (first | refine wA ?_ | refine wB ?_ | refine wC rfl ?_ | refine wD rfl ?_ | refine wE ?_ | refine wF (by omega) ?_ | ((first | refine wG ?_ | refine wH ?_ | refine wI ?_ | refine wJ ?_ | refine wK ?_ | refine wL ?_); simp (disch := omega) only [wP, wZ, undef, seval, if_pos, if_neg, aStore, frz, AV.flat, ↓reduceIte, ne_eq, reduceCtorEq, ByteArray.size, d3, rdR, unR]))
          refine goC_h [(1001, 0)] 5000 hB (by simp) (by simp) ?_ ?_ ?_
          iterate 2 (case _ => simp (disch := omega) only [wP, wZ, undef, seval, if_pos, if_neg, aStore, frz, AV.flat, ↓reduceIte, ne_eq, reduceCtorEq, ByteArray.size, rdR])
          repeat (first | refine wA ?_ | refine wB ?_ | refine wC rfl ?_ | refine wD rfl ?_ | refine wE ?_ | refine wF (by omega) ?_ | ((first | refine wG ?_ | refine wH ?_ | refine wI ?_ | refine wJ ?_ | refine wK ?_ | refine wL ?_); simp (disch := omega) only [wP, wZ, undef, seval, if_pos, if_neg, aStore, frz, AV.flat, ↓reduceIte, ne_eq, reduceCtorEq, ByteArray.size, ansE, houS]))
        · rw [if_neg c4] at hr
          have hB := huff_Bytes_h nl b hb hnl (q * 8 + 16 + 16) (by omega) (q + 4) ej x (by omega)
          have hlen : ((b.drop (q + 4)).take x).length = x := by rw [List.length_take, List.length_drop]; omega
          obtain ⟨z, hz⟩ : ∃ z, z = (b.drop (q + 4)).take x := ⟨_, rfl⟩
          rw [← hz] at hB hr hlen
          have hRo := inf_room_h t most hm nl b (8 * (q + 4 + x)) out ho
          repeat (first | refine wA ?_ | refine wB ?_ | refine wC rfl ?_ | refine wD rfl ?_ | refine wE ?_ | refine wF (by omega) ?_ | ((first | refine wG ?_ | refine wH ?_ | refine wI ?_ | refine wJ ?_ | refine wK ?_ | refine wL ?_); simp (disch := omega) only [wP, wZ, undef, seval, if_pos, if_neg, aStore, frz, AV.flat, ↓reduceIte, ne_eq, reduceCtorEq, ByteArray.size, d3, rdR, unR]))
          refine goC_h [(1001, 0)] 5000 hB (by simp) (by simp) ?_ ?_ ?_
          iterate 2 (case _ => simp (disch := omega) only [wP, wZ, undef, seval, if_pos, if_neg, aStore, frz, AV.flat, ↓reduceIte, ne_eq, reduceCtorEq, ByteArray.size, rdR])
          repeat (first | refine wA ?_ | refine wB ?_ | refine wC rfl ?_ | refine wD rfl ?_ | refine wE ?_ | refine wF (by omega) ?_ | ((first | refine wG ?_ | refine wH ?_ | refine wI ?_ | refine wJ ?_ | refine wK ?_ | refine wL ?_); simp (disch := omega) only [wP, wZ, undef, seval, if_pos, if_neg, aStore, frz, AV.flat, ↓reduceIte, ne_eq, reduceCtorEq, ByteArray.size, rdR, unR]))
          refine goC_h [(1000, 0), (1001, 0), (1002, 0)] 6000 hRo (by simp) (by simp) ?_ ?_ ?_
          iterate 2 (case _ => simp (disch := omega) only [wP, wZ, undef, seval, if_pos, if_neg, aStore, frz, AV.flat, ↓reduceIte, ne_eq, reduceCtorEq, ByteArray.size, unI, unR, rdR, ren_fxA])
          by_cases c5 : most < out.length + x
          · rw [if_pos c5] at hr
            subst hr
            have d5 : decide (((most - out.length : Nat) : Int) < (x : Int)) = true := decide_eq_true (by omega)
            repeat (first | refine wA ?_ | refine wB ?_ | refine wC rfl ?_ | refine wD rfl ?_ | refine wE ?_ | refine wF (by omega) ?_ | ((first | refine wG ?_ | refine wH ?_ | refine wI ?_ | refine wJ ?_ | refine wK ?_ | refine wL ?_); simp (disch := omega) only [wP, wZ, undef, seval, if_pos, if_neg, aStore, frz, AV.flat, ↓reduceIte, ne_eq, reduceCtorEq, ByteArray.size, ansE, houS, d5]))
          · rw [if_neg c5] at hr
            subst hr
            have d5 : decide (((most - out.length : Nat) : Int) < (x : Int)) = false := decide_eq_false (by omega)
            have hn0 : nl0 (out.length + x) = (nl0 out.length && (z.map u8).isEmpty) := by
              cases out with
              | nil => cases z with
                       | nil => simp at hlen; subst hlen; rfl
                       | cons a z => simp at hlen; rw [← hlen]; rfl
              | cons a out => simp only [List.length_cons]; rw [nl0_pos (by omega), nl0_pos (by omega)]; rfl
            repeat (first | refine wA ?_ | refine wB ?_ | refine wC rfl ?_ | refine wD rfl ?_ | refine wE ?_ | refine wF (by omega) ?_ | ((first | refine wG ?_ | refine wH ?_ | refine wI ?_ | refine wJ ?_ | refine wK ?_ | refine wL ?_); simp (disch := omega) only [wP, wZ, undef, seval, if_pos, if_neg, aStore, frz, AV.flat, ↓reduceIte, ne_eq, reduceCtorEq, ByteArray.size, ansE, houS, d5, unO, unR, rdR, ren_fxA, cells_fxA, hlen, hn0]))
end Go.Proofs.YtokdmakljdhjiaaDoor.Aw
