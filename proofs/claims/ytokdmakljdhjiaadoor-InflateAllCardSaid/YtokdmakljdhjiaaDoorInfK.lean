/- Contracts: (*unpacker).block. -/
import Derived.Test.YtokdmakljdhjiaaDoorPkJ
namespace Go.Proofs.YtokdmakljdhjiaaDoor.Aw
open Go
set_option linter.unusedSimpArgs false
set_option linter.unusedVariables false

theorem ren_cdsU {ρ : Nat → Nat → Nat × Nat} {l d : List Nat} : ren ρ (.fp (.agg [.fp (.agg (trR l)) 0, .fp (.agg (trR d)) 0]) 0) = .fp (.agg [.fp (.agg (trR l)) 0, .fp (.agg (trR d)) 0]) 0 := ren_cds
theorem fxA_true : fxA true = cds fixL fixD := rfl
theorem fxA_false : fxA false = .sc (.pointer none) := rfl
theorem cells_cds {l d : List Nat} : cellsA (cds l d) = some [cds l d] := rfl
def bitB (b : List UInt8) (i : Nat) : Bool := decide (i + 3 ≤ 8 * b.length) && decide (numAt b i 3 % 2 = 1)
def ansB (b : List UInt8) (i : Nat) : BR (Bool × List UInt8) → AV
  | .ok p _ => .tup [boo p.1, int 0]
  | .no e => .tup [boo (bitB b i), int (e : Int)]
/-- Whether the codes of kind 1 are there behind a block. -/
def fxN (t : Bool) (b : List UInt8) (i : Nat) : Bool := t || decide (numAt b i 3 / 2 = 1)
def houB (K : Nat) (t : Bool) (most : Nat) (nl : Bool) (b : List UInt8) (i : Nat) : BR (Bool × List UInt8) → List (Nat × Nat × AO)
  | .ok p j => unO K (fxN t b i) most nl b j p.2
  | .no _ => []
def KB (F : Nat) : Nat := 1000 * F + 700000
set_option maxHeartbeats 2000000 in
set_option maxRecDepth 100000 in
theorem inf_block_h [Tabs Tryd.prog] (ht : Tabs.tab Tryd.prog 0 = some (tells.map nA)) (t : Bool) (most : Nat) (hm : most ≤ 16777216) (nl : Bool) (b : List UInt8) (hb : b.length ≤ 1000000) (hnl : nl = true → b = []) (i : Nat) (hi : i ≤ 8 * b.length) (out : List UInt8) (ho : out.length ≤ most) (F : Nat) (hF : 8 * b.length < F) (r : BR (Bool × List UInt8)) (hr : (blkT most F out).run (bitsL b) i = r) :
    HCon Tryd.prog n_inflate_unpacker_block [.op 1000 0 0] (unI t most nl b i out) (ansB b i r) (houB (KB F) t most nl b i r) (KB F + 1) := by
  refine HCon.of' mix Tryd.func10 rfl Tryd.ntmps10 e_inflate_unpacker_block r_inflate_unpacker_block (by simp) (by simp [AV.gl, AV.gl.glL, int]) un_gl ?_
  unfold s_inflate_unpacker_block
  rw [blkT, run_bnd, run_num hi] at hr
  by_cases c1 : i + 3 ≤ 8 * b.length
  · rw [if_pos c1] at hr
    simp only [BR.bnd] at hr
    rw [run_bnd] at hr
    have hT := huff_Take_h nl b hb i hi 3 (by omega) c1
    have h7 := numAt3 (b := b) (i := i)
    have hbit : bitB b i = decide (numAt b i 3 % 2 = 1) := by rw [bitB, decide_eq_true c1, Bool.true_and]
    have hfx : fxN t b i = (t || decide (numAt b i 3 / 2 = 1)) := rfl
    obtain ⟨h, hh⟩ : ∃ h, h = numAt b i 3 := ⟨_, rfl⟩
    rw [← hh] at hT hr h7 hbit hfx
    have hlast : decide (((h % 2 : Nat) : Int) = 1) = decide (h % 2 = 1) := decide_eq_decide.2 (by omega)
    have hl2 : decide ((h : Int) = 1) = decide (h = 1) := decide_eq_decide.2 (by omega)
    repeat (first | refine wA ?_ | refine wB ?_ | refine wC rfl ?_ | refine wD rfl ?_ | refine wE ?_ | refine wF (by omega) ?_ | ((first | refine wG ?_ | refine wH ?_ | refine wI ?_ | refine wJ ?_ | refine wK ?_ | refine wL ?_); simp (disch := omega) only [wP, wZ, undef, seval, if_pos, if_neg, aStore, frz, AV.flat, ↓reduceIte, ne_eq, reduceCtorEq, ByteArray.size, unI, unR]))
    refine goC_h [(1001, 0)] 2000 hT (by simp) (by simp) ?_ ?_ ?_
    iterate 2 (case _ => simp (disch := omega) only [wP, wZ, undef, seval, if_pos, if_neg, aStore, frz, AV.flat, ↓reduceIte, ne_eq, reduceCtorEq, ByteArray.size, rdR])
    have hse := fun e (q : (bodT most F out (h / 2)).run (bitsL b) (i + 3) = .no e) => safe_run safe_bod q
    obtain ⟨r1, hr1⟩ : ∃ r1, (bodT most F out (h / 2)).run (bitsL b) (i + 3) = r1 := ⟨_, rfl⟩
    rw [hr1] at hr hse
    rw [bodT] at hr1
    obtain ⟨p, hp⟩ : ∃ p, p = h / 2 := ⟨_, rfl⟩
    rw [← hp] at hr1 hfx
    by_cases k0 : p = 0
    · rw [if_pos k0] at hr1
      subst k0
      have hfx : fxN t b i = t := by rw [hfx]; simp
      have hS := inf_stored_h t most hm nl b hb hnl (i + 3) c1 out ho r1 hr1
      repeat (first | refine wA ?_ | refine wB ?_ | refine wC rfl ?_ | refine wD rfl ?_ | refine wE ?_ | refine wF (by omega) ?_ | ((first | refine wG ?_ | refine wH ?_ | refine wI ?_ | refine wJ ?_ | refine wK ?_ | refine wL ?_); simp (disch := omega) only [wP, wZ, undef, seval, if_pos, if_neg, aStore, frz, AV.flat, ↓reduceIte, ne_eq, reduceCtorEq, ByteArray.size, unR, rdR, ← hp, Nat.pow_one]))
      refine goC_h [(1000, 0), (1001, 0), (1002, 0)] 3000 hS (by simp) (by simp) ?_ ?_ ?_
      iterate 2 (case _ => simp (disch := omega) only [wP, wZ, undef, seval, if_pos, if_neg, aStore, frz, AV.flat, ↓reduceIte, ne_eq, reduceCtorEq, ByteArray.size, unI, unR, rdR, ren_fxA])
      cases r1 with
      | no e =>
        simp only [BR.bnd] at hr
        subst hr
        repeat (first | refine wA ?_ | refine wB ?_ | refine wC rfl ?_ | refine wD rfl ?_ | refine wE ?_ | refine wF (by omega) ?_ | ((first | refine wG ?_ | refine wH ?_ | refine wI ?_ | refine wJ ?_ | refine wK ?_ | refine wL ?_); simp (disch := omega) only [wP, wZ, undef, seval, if_pos, if_neg, aStore, frz, AV.flat, ↓reduceIte, ne_eq, reduceCtorEq, ByteArray.size, ansE, houS, ansB, houB, hlast, hl2, hbit]))
        simp only [KB]; omega
      | ok o j =>
        simp only [BR.bnd, BT.run] at hr
        subst hr
        iterate 1 (first | refine wA ?_ | refine wB ?_ | refine wC rfl ?_ | refine wD rfl ?_ | refine wE ?_ | refine wF (by omega) ?_ | ((first | refine wG ?_ | refine wH ?_ | refine wI ?_ | refine wJ ?_ | refine wK ?_ | refine wL ?_); simp (disch := omega) only [wP, wZ, undef, seval, if_pos, if_neg, aStore, frz, AV.flat, ↓reduceIte, ne_eq, reduceCtorEq, ByteArray.size, ansE, houS, unO, unR, rdR, ren_fxA, ren_cds]))
        refine SWp.le (le_mk (N := 56) (gc := KB F) (l := [(3, int 0), (4, int (h : Int))]) (h := [(1000, 0, .row false (unR t most 104 o.length)), (1001, 0, .row false (rdR nl b j)), (1002, 104, .row (nl0 o.length) (o.map u8))]) rfl ?_ ?_ ?_) ?_
        · simp only [KB]; omega
        iterate 2 (case _ => simp (disch := omega) only [wP, wZ, undef, seval, if_pos, if_neg, aStore, frz, AV.flat, ↓reduceIte, ne_eq, reduceCtorEq, ByteArray.size, unR, rdR, fxA_true])
        refine SWp.renew 1002 104 (o := .row (nl0 o.length) (o.map u8)) (by simp (disch := omega) only [wP, wZ, undef, seval, if_pos, if_neg, aStore, frz, AV.flat, ↓reduceIte, ne_eq, reduceCtorEq, ByteArray.size]) ?_
        refine SWp.le (le_mk (N := 56) (gc := KB F + 1) (l := [(3, int 0), (4, int (h : Int))]) (h := [(1000, 0, .row false (unR t most (KB F) o.length)), (1001, 0, .row false (rdR nl b j)), (1002, KB F, .row (nl0 o.length) (o.map u8))]) rfl ?_ ?_ ?_) ?_
        · exact Nat.le_refl _
        iterate 2 (case _ => simp (disch := omega) only [wP, wZ, undef, seval, if_pos, if_neg, aStore, frz, AV.flat, ↓reduceIte, ne_eq, reduceCtorEq, ByteArray.size, rgn_eq, rgH_at, unR, rdR, ren_fxA, ren_cds, fxA_true])
        repeat (first | refine wA ?_ | refine wB ?_ | refine wC rfl ?_ | refine wD rfl ?_ | refine wE ?_ | refine wF (by omega) ?_ | ((first | refine wG ?_ | refine wH ?_ | refine wI ?_ | refine wJ ?_ | refine wK ?_ | refine wL ?_); simp (disch := omega) only [wP, wZ, undef, seval, if_pos, if_neg, aStore, frz, AV.flat, ↓reduceIte, ne_eq, reduceCtorEq, ByteArray.size, ansB, houB, unO, unR, rdR, hfx, hlast, hl2]))
    · rw [if_neg k0] at hr1
      have d0 : decide ((p : Int) = 0) = false := decide_eq_false (by omega)
      by_cases k1 : p = 1
      · rw [if_pos k1] at hr1
        subst k1
        have hfx : fxN t b i = true := by rw [hfx]; simp
        have hS := inf_symbols_h true most hm nl b hb (i + 3) c1 out ho fixL fixD (by rw [fixL_facts.2.1]; omega) (by rw [fixL_facts.2.2]; omega) (by rw [fixD_facts.2.1]; omega) (by rw [fixD_facts.2.2]; omega) F (by omega) r1 hr1
        cases t with
        | true =>
          repeat (first | refine wA ?_ | refine wB ?_ | refine wC rfl ?_ | refine wD rfl ?_ | refine wE ?_ | refine wF (by omega) ?_ | ((first | refine wG ?_ | refine wH ?_ | refine wI ?_ | refine wJ ?_ | refine wK ?_ | refine wL ?_); simp (disch := omega) only [wP, wZ, undef, seval, if_pos, if_neg, aStore, frz, AV.flat, ↓reduceIte, ne_eq, reduceCtorEq, ByteArray.size, unR, rdR, ← hp, Nat.pow_one, fxA_true, cds]))
          refine goC_h [(1000, 0), (1001, 0), (1002, 0)] 3000 hS (by simp) (by simp) ?_ ?_ ?_
          iterate 2 (case _ => simp (disch := omega) only [wP, wZ, undef, seval, if_pos, if_neg, aStore, frz, AV.flat, ↓reduceIte, ne_eq, reduceCtorEq, ByteArray.size, unI, unR, rdR, ren_cdsU, fxA_true, cds])
          cases r1 with
          | no e =>
            simp only [BR.bnd] at hr
            subst hr
            repeat (first | refine wA ?_ | refine wB ?_ | refine wC rfl ?_ | refine wD rfl ?_ | refine wE ?_ | refine wF (by omega) ?_ | ((first | refine wG ?_ | refine wH ?_ | refine wI ?_ | refine wJ ?_ | refine wK ?_ | refine wL ?_); simp (disch := omega) only [wP, wZ, undef, seval, if_pos, if_neg, aStore, frz, AV.flat, ↓reduceIte, ne_eq, reduceCtorEq, ByteArray.size, ansE, houS, ansB, houB, hlast, hl2, hbit]))
            simp only [KB]; omega
          | ok o j =>
            simp only [BR.bnd, BT.run] at hr
            subst hr
            iterate 1 (first | refine wA ?_ | refine wB ?_ | refine wC rfl ?_ | refine wD rfl ?_ | refine wE ?_ | refine wF (by omega) ?_ | ((first | refine wG ?_ | refine wH ?_ | refine wI ?_ | refine wJ ?_ | refine wK ?_ | refine wL ?_); simp (disch := omega) only [wP, wZ, undef, seval, if_pos, if_neg, aStore, frz, AV.flat, ↓reduceIte, ne_eq, reduceCtorEq, ByteArray.size, ansE, houS, unO, unR, rdR, fxA_true, cds, ren_cdsU]))
            refine SWp.le (le_mk (N := 56) (gc := KB F) (l := [(3, int 0), (4, int (h : Int))]) (h := [(1000, 0, .row false (unR true most ((31 + (1000 * F + 1))) o.length)), (1001, 0, .row false (rdR nl b j)), (1002, (31 + (1000 * F + 1)), .row (nl0 o.length) (o.map u8))]) rfl ?_ ?_ ?_) ?_
            · simp only [KB]; omega
            iterate 2 (case _ => simp (disch := omega) only [wP, wZ, undef, seval, if_pos, if_neg, aStore, frz, AV.flat, ↓reduceIte, ne_eq, reduceCtorEq, ByteArray.size, unR, rdR, fxA_true, cds])
            refine SWp.renew 1002 ((31 + (1000 * F + 1))) (o := .row (nl0 o.length) (o.map u8)) (by simp (disch := omega) only [wP, wZ, undef, seval, if_pos, if_neg, aStore, frz, AV.flat, ↓reduceIte, ne_eq, reduceCtorEq, ByteArray.size]) ?_
            refine SWp.le (le_mk (N := 56) (gc := KB F + 1) (l := [(3, int 0), (4, int (h : Int))]) (h := [(1000, 0, .row false (unR true most (KB F) o.length)), (1001, 0, .row false (rdR nl b j)), (1002, KB F, .row (nl0 o.length) (o.map u8))]) rfl ?_ ?_ ?_) ?_
            · exact Nat.le_refl _
            iterate 2 (case _ => simp (disch := omega) only [wP, wZ, undef, seval, if_pos, if_neg, aStore, frz, AV.flat, ↓reduceIte, ne_eq, reduceCtorEq, ByteArray.size, rgn_eq, rgH_at, unR, rdR, fxA_true, cds, ren_cdsU])
            repeat (first | refine wA ?_ | refine wB ?_ | refine wC rfl ?_ | refine wD rfl ?_ | refine wE ?_ | refine wF (by omega) ?_ | ((first | refine wG ?_ | refine wH ?_ | refine wI ?_ | refine wJ ?_ | refine wK ?_ | refine wL ?_); simp (disch := omega) only [wP, wZ, undef, seval, if_pos, if_neg, aStore, frz, AV.flat, ↓reduceIte, ne_eq, reduceCtorEq, ByteArray.size, ansB, houB, unO, unR, rdR, fxA_true, cds, hfx, hlast, hl2]))
        | false =>
          repeat (first | refine wA ?_ | refine wB ?_ | refine wC rfl ?_ | refine wD rfl ?_ | refine wE ?_ | refine wF (by omega) ?_ | ((first | refine wG ?_ | refine wH ?_ | refine wI ?_ | refine wJ ?_ | refine wK ?_ | refine wL ?_); simp (disch := omega) only [wP, wZ, undef, seval, if_pos, if_neg, aStore, frz, AV.flat, ↓reduceIte, ne_eq, reduceCtorEq, ByteArray.size, unR, rdR, ← hp, Nat.pow_one, fxA_false]))
          refine goC_p _ (.inl ⟨rfl, inf_fixedCodes_c⟩) ?_
          repeat (first | refine wA ?_ | refine wB ?_ | refine wC rfl ?_ | refine wD rfl ?_ | refine wE ?_ | refine wF (by omega) ?_ | ((first | refine wG ?_ | refine wH ?_ | refine wI ?_ | refine wJ ?_ | refine wK ?_ | refine wL ?_); simp (disch := omega) only [wP, wZ, undef, seval, if_pos, if_neg, aStore, frz, AV.flat, ↓reduceIte, ne_eq, reduceCtorEq, ByteArray.size, unR, rdR, cells_cds]))
          refine goC_h [(1000, 0), (1001, 0), (1002, 0)] 3000 hS (by simp) (by simp) ?_ ?_ ?_
          iterate 2 (case _ => simp (disch := omega) only [wP, wZ, undef, seval, if_pos, if_neg, aStore, frz, AV.flat, ↓reduceIte, ne_eq, reduceCtorEq, ByteArray.size, unI, unR, rdR, ren_cds, fxA_true])
          cases r1 with
          | no e =>
            simp only [BR.bnd] at hr
            subst hr
            repeat (first | refine wA ?_ | refine wB ?_ | refine wC rfl ?_ | refine wD rfl ?_ | refine wE ?_ | refine wF (by omega) ?_ | ((first | refine wG ?_ | refine wH ?_ | refine wI ?_ | refine wJ ?_ | refine wK ?_ | refine wL ?_); simp (disch := omega) only [wP, wZ, undef, seval, if_pos, if_neg, aStore, frz, AV.flat, ↓reduceIte, ne_eq, reduceCtorEq, ByteArray.size, ansE, houS, ansB, houB, hlast, hl2, hbit]))
            simp only [KB]; omega
          | ok o j =>
            simp only [BR.bnd, BT.run] at hr
            subst hr
            iterate 1 (first | refine wA ?_ | refine wB ?_ | refine wC rfl ?_ | refine wD rfl ?_ | refine wE ?_ | refine wF (by omega) ?_ | ((first | refine wG ?_ | refine wH ?_ | refine wI ?_ | refine wJ ?_ | refine wK ?_ | refine wL ?_); simp (disch := omega) only [wP, wZ, undef, seval, if_pos, if_neg, aStore, frz, AV.flat, ↓reduceIte, ne_eq, reduceCtorEq, ByteArray.size, ansE, houS, unO, unR, rdR, ren_fxA, ren_cds]))
            refine SWp.le (le_mk (N := 56) (gc := KB F) (l := [(3, int 0), (4, int (h : Int))]) (h := [(1000, 0, .row false (unR true most ((31 + (1000 * F + 1))) o.length)), (1001, 0, .row false (rdR nl b j)), (1002, (31 + (1000 * F + 1)), .row (nl0 o.length) (o.map u8))]) rfl ?_ ?_ ?_) ?_
            · simp only [KB]; omega
            iterate 2 (case _ => simp (disch := omega) only [wP, wZ, undef, seval, if_pos, if_neg, aStore, frz, AV.flat, ↓reduceIte, ne_eq, reduceCtorEq, ByteArray.size, unR, rdR, fxA_true])
            refine SWp.renew 1002 ((31 + (1000 * F + 1))) (o := .row (nl0 o.length) (o.map u8)) (by simp (disch := omega) only [wP, wZ, undef, seval, if_pos, if_neg, aStore, frz, AV.flat, ↓reduceIte, ne_eq, reduceCtorEq, ByteArray.size]) ?_
            refine SWp.le (le_mk (N := 56) (gc := KB F + 1) (l := [(3, int 0), (4, int (h : Int))]) (h := [(1000, 0, .row false (unR true most (KB F) o.length)), (1001, 0, .row false (rdR nl b j)), (1002, KB F, .row (nl0 o.length) (o.map u8))]) rfl ?_ ?_ ?_) ?_
            · exact Nat.le_refl _
            iterate 2 (case _ => simp (disch := omega) only [wP, wZ, undef, seval, if_pos, if_neg, aStore, frz, AV.flat, ↓reduceIte, ne_eq, reduceCtorEq, ByteArray.size, rgn_eq, rgH_at, unR, rdR, ren_fxA, ren_cds, fxA_true])
            repeat (first | refine wA ?_ | refine wB ?_ | refine wC rfl ?_ | refine wD rfl ?_ | refine wE ?_ | refine wF (by omega) ?_ | ((first | refine wG ?_ | refine wH ?_ | refine wI ?_ | refine wJ ?_ | refine wK ?_ | refine wL ?_); simp (disch := omega) only [wP, wZ, undef, seval, if_pos, if_neg, aStore, frz, AV.flat, ↓reduceIte, ne_eq, reduceCtorEq, ByteArray.size, ansB, houB, unO, unR, rdR, hfx, hlast, hl2]))
      · rw [if_neg k1] at hr1
        have d1 : decide ((p : Int) = 1) = false := decide_eq_false (by omega)
        rw [decide_eq_false k1, Bool.or_false] at hfx
        by_cases k2 : p = 2
        · rw [if_pos k2] at hr1
          subst k2
          rw [run_bnd] at hr1
          have hTo := inf_toldCodes_h ht t most nl b hb (i + 3) c1 out _ rfl
          have hTi := fun a j (q : tolT.run (bitsL b) (i + 3) = .ok a j) => And.intro ((run_ok q).2 (by rw [length_bitsL]; exact c1)) (tolT_ok c1 q)
          have hTs := fun e (q : tolT.run (bitsL b) (i + 3) = .no e) => safe_run safe_tol q
          obtain ⟨r2, hr2⟩ : ∃ r2, r2 = tolT.run (bitsL b) (i + 3) := ⟨_, rfl⟩
          rw [← hr2] at hTo hTi hTs hr1
          repeat (first | refine wA ?_ | refine wB ?_ | refine wC rfl ?_ | refine wD rfl ?_ | refine wE ?_ | refine wF (by omega) ?_ | ((first | refine wG ?_ | refine wH ?_ | refine wI ?_ | refine wJ ?_ | refine wK ?_ | refine wL ?_); simp (disch := omega) only [wP, wZ, undef, seval, if_pos, if_neg, aStore, frz, AV.flat, ↓reduceIte, ne_eq, reduceCtorEq, ByteArray.size, unR, rdR, ← hp, Nat.pow_one, d0, d1]))
          refine goC_h [(1000, 0), (1001, 0), (1002, 0)] 3000 hTo (by simp) (by simp) ?_ ?_ ?_
          iterate 2 (case _ => simp (disch := omega) only [wP, wZ, undef, seval, if_pos, if_neg, aStore, frz, AV.flat, ↓reduceIte, ne_eq, reduceCtorEq, ByteArray.size, unI, unR, rdR, ren_fxA])
          cases r2 with
          | no e =>
            have he := hTs e rfl
            have de : decide ((e : Int) = 0) = false := decide_eq_false (by omega)
            simp only [BR.bnd] at hr1
            subst hr1
            simp only [BR.bnd] at hr
            subst hr
            repeat (first | refine wA ?_ | refine wB ?_ | refine wC rfl ?_ | refine wD rfl ?_ | refine wE ?_ | refine wF (by omega) ?_ | ((first | refine wG ?_ | refine wH ?_ | refine wI ?_ | refine wJ ?_ | refine wK ?_ | refine wL ?_); simp (disch := omega) only [wP, wZ, undef, seval, if_pos, if_neg, aStore, frz, AV.flat, ↓reduceIte, ne_eq, reduceCtorEq, ByteArray.size, ansP, houP, ansB, houB, hlast, hl2, hbit, de]))
            simp only [KB]; omega
          | ok q j2 =>
            obtain ⟨hj2, hl, hKl, hd, hKd⟩ := hTi q j2 rfl
            rw [length_bitsL] at hj2
            simp only [BR.bnd] at hr1
            have hS := inf_symbols_h t most hm nl b hb j2 hj2 out ho q.1 q.2 hl hKl hd hKd F (by omega) r1 hr1
            repeat (first | refine wA ?_ | refine wB ?_ | refine wC rfl ?_ | refine wD rfl ?_ | refine wE ?_ | refine wF (by omega) ?_ | ((first | refine wG ?_ | refine wH ?_ | refine wI ?_ | refine wJ ?_ | refine wK ?_ | refine wL ?_); simp (disch := omega) only [wP, wZ, undef, seval, if_pos, if_neg, aStore, frz, AV.flat, ↓reduceIte, ne_eq, reduceCtorEq, ByteArray.size, ansP, houP, unO, unR, rdR, ren_fxA, ren_cds]))
            refine goC_h [(1000, 0), (1001, 0), (1002, 0)] 4000 hS (by simp) (by simp) ?_ ?_ ?_
            iterate 2 (case _ => simp (disch := omega) only [wP, wZ, undef, seval, if_pos, if_neg, aStore, frz, AV.flat, ↓reduceIte, ne_eq, reduceCtorEq, ByteArray.size, unI, unR, rdR, ren_fxA, ren_cds])
            cases r1 with
            | no e =>
              simp only [BR.bnd] at hr
              subst hr
              repeat (first | refine wA ?_ | refine wB ?_ | refine wC rfl ?_ | refine wD rfl ?_ | refine wE ?_ | refine wF (by omega) ?_ | ((first | refine wG ?_ | refine wH ?_ | refine wI ?_ | refine wJ ?_ | refine wK ?_ | refine wL ?_); simp (disch := omega) only [wP, wZ, undef, seval, if_pos, if_neg, aStore, frz, AV.flat, ↓reduceIte, ne_eq, reduceCtorEq, ByteArray.size, ansE, houS, ansB, houB, hlast, hl2, hbit]))
              simp only [KB]; omega
            | ok o j =>
              simp only [BR.bnd, BT.run] at hr
              subst hr
              iterate 1 (first | refine wA ?_ | refine wB ?_ | refine wC rfl ?_ | refine wD rfl ?_ | refine wE ?_ | refine wF (by omega) ?_ | ((first | refine wG ?_ | refine wH ?_ | refine wI ?_ | refine wJ ?_ | refine wK ?_ | refine wL ?_); simp (disch := omega) only [wP, wZ, undef, seval, if_pos, if_neg, aStore, frz, AV.flat, ↓reduceIte, ne_eq, reduceCtorEq, ByteArray.size, ansE, houS, unO, unR, rdR, ren_fxA, ren_cds]))
              refine SWp.le (le_mk (N := 56) (gc := KB F) (l := [(3, int 0), (4, int (h : Int))]) (h := [(1000, 0, .row false (unR t most ((600031 + (1000 * F + 1))) o.length)), (1001, 0, .row false (rdR nl b j)), (1002, (600031 + (1000 * F + 1)), .row (nl0 o.length) (o.map u8))]) rfl ?_ ?_ ?_) ?_
              · simp only [KB]; omega
              iterate 2 (case _ => simp (disch := omega) only [wP, wZ, undef, seval, if_pos, if_neg, aStore, frz, AV.flat, ↓reduceIte, ne_eq, reduceCtorEq, ByteArray.size, unR, rdR, fxA_true])
              refine SWp.renew 1002 ((600031 + (1000 * F + 1))) (o := .row (nl0 o.length) (o.map u8)) (by simp (disch := omega) only [wP, wZ, undef, seval, if_pos, if_neg, aStore, frz, AV.flat, ↓reduceIte, ne_eq, reduceCtorEq, ByteArray.size]) ?_
              refine SWp.le (le_mk (N := 56) (gc := KB F + 1) (l := [(3, int 0), (4, int (h : Int))]) (h := [(1000, 0, .row false (unR t most (KB F) o.length)), (1001, 0, .row false (rdR nl b j)), (1002, KB F, .row (nl0 o.length) (o.map u8))]) rfl ?_ ?_ ?_) ?_
              · exact Nat.le_refl _
              iterate 2 (case _ => simp (disch := omega) only [wP, wZ, undef, seval, if_pos, if_neg, aStore, frz, AV.flat, ↓reduceIte, ne_eq, reduceCtorEq, ByteArray.size, rgn_eq, rgH_at, unR, rdR, ren_fxA, ren_cds, fxA_true])
              repeat (first | refine wA ?_ | refine wB ?_ | refine wC rfl ?_ | refine wD rfl ?_ | refine wE ?_ | refine wF (by omega) ?_ | ((first | refine wG ?_ | refine wH ?_ | refine wI ?_ | refine wJ ?_ | refine wK ?_ | refine wL ?_); simp (disch := omega) only [wP, wZ, undef, seval, if_pos, if_neg, aStore, frz, AV.flat, ↓reduceIte, ne_eq, reduceCtorEq, ByteArray.size, ansB, houB, unO, unR, rdR, hfx, hlast, hl2]))
        · rw [if_neg k2] at hr1
          simp only [BT.run] at hr1
          subst hr1
          simp only [BR.bnd] at hr
          subst hr
          have d2 : decide ((p : Int) = 2) = false := decide_eq_false (by omega)
          repeat (first | refine wA ?_ | refine wB ?_ | refine wC rfl ?_ | refine wD rfl ?_ | refine wE ?_ | refine wF (by omega) ?_ | ((first | refine wG ?_ | refine wH ?_ | refine wI ?_ | refine wJ ?_ | refine wK ?_ | refine wL ?_); simp (disch := omega) only [wP, wZ, undef, seval, if_pos, if_neg, aStore, frz, AV.flat, ↓reduceIte, ne_eq, reduceCtorEq, ByteArray.size, unR, rdR, ← hp, Nat.pow_one, d0, d1, d2, ansB, houB, hlast, hl2, hbit]))
          simp only [KB]; omega
  · rw [if_neg c1] at hr
    simp only [BR.bnd] at hr
    subst hr
    have hbit : bitB b i = false := by rw [bitB, decide_eq_false c1, Bool.false_and]
    have hT := huff_Take_no nl b hb i hi 3 (decide_eq_false (by omega))
    repeat (first | refine wA ?_ | refine wB ?_ | refine wC rfl ?_ | refine wD rfl ?_ | refine wE ?_ | refine wF (by omega) ?_ | ((first | refine wG ?_ | refine wH ?_ | refine wI ?_ | refine wJ ?_ | refine wK ?_ | refine wL ?_); simp (disch := omega) only [wP, wZ, undef, seval, if_pos, if_neg, aStore, frz, AV.flat, ↓reduceIte, ne_eq, reduceCtorEq, ByteArray.size, unI, unR]))
    refine goC_h [(1001, 0)] 2000 hT (by simp) (by simp) ?_ ?_ ?_
    iterate 2 (case _ => simp (disch := omega) only [wP, wZ, undef, seval, if_pos, if_neg, aStore, frz, AV.flat, ↓reduceIte, ne_eq, reduceCtorEq, ByteArray.size, rdR])
    repeat (first | refine wA ?_ | refine wB ?_ | refine wC rfl ?_ | refine wD rfl ?_ | refine wE ?_ | refine wF (by omega) ?_ | ((first | refine wG ?_ | refine wH ?_ | refine wI ?_ | refine wJ ?_ | refine wK ?_ | refine wL ?_); simp (disch := omega) only [wP, wZ, undef, seval, if_pos, if_neg, aStore, frz, AV.flat, ↓reduceIte, ne_eq, reduceCtorEq, ByteArray.size, unR, rdR, ansB, houB, hbit]))
    simp only [KB]; omega
end Go.Proofs.YtokdmakljdhjiaaDoor.Aw
