/- Contract: drayageref04.Inflate. -/
import Derived.Test.YtokdmakljdhjiaaDoorRfiH
import Derived.Test.YtokdmakljdhjiaaDoorInfL
namespace Go.Proofs.YtokdmakljdhjiaaDoor.Aw
open Go
set_option linter.unusedSimpArgs false
set_option linter.unusedVariables false

/-- The document's answer. -/
def gotG (r : List UInt8 × Nat × Nat) : AV := if r.2.2 = 0 then .agg [.sl (nl0 r.1.length) none (r.1.map u8), int (r.2.1 : Int), int 0] else .agg [.sc (.slice none 0 0), int 0, int (r.2.2 : Int)]
theorem free_gotG {r : List UInt8 × Nat × Nat} : (gotG r).free = true := by
  unfold gotG
  by_cases c : r.2.2 = 0
  · rw [if_pos c]; simp only [AV.free, AV.free.freeL, free_u8, int, Bool.and_self]
  · rw [if_neg c]; rfl
theorem gotG_no {e : Nat} (h : e ≠ 0) : gotG ([], 0, e) = .agg [.sc (.slice none 0 0), int 0, int (e : Int)] := by rw [gotG, if_neg h]
theorem gotG_ok {o : List UInt8} {u : Nat} : gotG (o, u, 0) = .agg [.sl (nl0 o.length) none (o.map u8), int (u : Int), int 0] := rfl
theorem num3 : numT 3 = (numT 1).bnd fun x => (numT 2).bnd fun y => .ret (x + 2 * y) := rfl
theorem blk_head {b : List UInt8} {most F i : Nat} {out : List UInt8} (hi : i ≤ 8 * b.length) {x p1 e1 y p2 e2 : Nat} (h1 : nuS (bitsL b) 1 i 0 = (x, p1, e1)) (h2 : nuS (bitsL b) 2 p1 e1 = (y, p2, e2)) :
    (e2 = 0 ∧ x < 2 ∧ y < 4 ∧ p2 ≤ 8 * b.length ∧ (blkT most F out).run (bitsL b) i = ((bodT most F out y).run (bitsL b) p2).bnd fun o j => .ok (decide (x = 1), o) j) ∨ (e2 ≠ 0 ∧ (blkT most F out).run (bitsL b) i = .no e2) := by
  have f1 := nuS_fact (b := b) (n := 1) (i := i) (e := 0) (by omega) hi
  rw [h1] at f1
  have f2 := nuS_fact (b := b) (n := 2) (i := p1) (e := e1) (by omega) f1.2
  rw [h2] at f2
  simp only at f1 f2
  have hB : (bitsL b).length = 8 * b.length := length_bitsL
  have r1 := nuS_run (B := bitsL b) (n := 1) (i := i) (by omega)
  rw [h1] at r1
  simp only at r1
  rw [blkT, run_bnd, num3, run_bnd, r1]
  by_cases q1 : e1 = 0
  · subst q1
    have r2 := nuS_run (B := bitsL b) (n := 2) (i := p1) (by omega)
    rw [h2] at r2
    simp only at r2
    rw [if_pos rfl]
    simp only [BR.bnd]
    rw [run_bnd, r2]
    by_cases q2 : e2 = 0
    · refine .inl ⟨q2, f1.1, f2.1, f2.2, ?_⟩
      have hx2 : x < 2 := f1.1
      rw [if_pos q2]
      simp only [BR.bnd, BT.run]
      rw [run_bnd, show (x + 2 * y) / 2 = y by omega, show (x + 2 * y) % 2 = x by omega]
      rfl
    · exact .inr ⟨q2, by rw [if_neg q2]; rfl⟩
  · rw [nuS_e q1] at h2
    cases h2
    exact .inr ⟨q1, by rw [if_neg q1]; rfl⟩

/-- The reading of a block by the document's program: while it runs, or behind a fault. -/
abbrev RfX := (Nat × List UInt8 × Nat × Nat × Nat) ⊕ (AV × AV × AV × AV × Nat × Nat)
def rfF (nb : Bool) (B : List Nat) (m : Nat) : RfX → ASt
  | .inl (_, o, i, g, c) => mk 78 c [(4, .op 4 0 0), (5, .op 19 1 0)] [(4, 0, .row false [.sc (.slice none 0 0), int 0, int 0]), (19, 1, .row false [.sl nb none (B.map nA), int (i : Int), .own 100 g none 0 o.length, int (m : Int), int 0]), (100, g, .row (nl0 o.length) (o.map u8))]
  | .inr (x, y, z, w, e, c) => mk 78 c [(4, .op 4 0 0), (5, .op 19 1 0)] [(4, 0, .row false [.sc (.slice none 0 0), int 0, int 0]), (19, 1, .row false [x, y, z, w, int (e : Int)])]
def rfI (b : List UInt8) (m F : Nat) (r : BR (List UInt8)) : RfX → Prop
  | .inl (f, o, i, _, _) => (infT m F f o).run (bitsL b) i = r ∧ i ≤ 8 * b.length ∧ 8 * b.length - i < f ∧ o.length ≤ m
  | .inr (_, _, _, _, e, _) => r = .no e ∧ e ≠ 0
def rfM : RfX → Nat
  | .inl (f, _) => f + 1
  | .inr _ => 0

set_option maxHeartbeats 4000000 in
set_option maxRecDepth 100000 in
theorem rf_Inflate_c [Tabs Tryd.prog] (nl : Bool) (b : List UInt8) (hb : b.length ≤ 10000) (most : Int) (F : Nat) (hF : 8 * b.length < F) :
    Con Tryd.prog n_drayageref04_Inflate [.sl nl none (b.map u8), int most] (gotG (infA F b most)) := by
  refine Con.of' mix Tryd.func8 rfl Tryd.ntmps8 e_drayageref04_Inflate r_drayageref04_Inflate (by simp) (by simp only [AV.free, AV.free.freeL, free_u8, int, Bool.and_self]) free_gotG ?_
  unfold s_drayageref04_Inflate
  by_cases c1 : most < 0
  · have d1 := decide_eq_true c1
    rw [show gotG (infA F b most) = .agg [.sc (.slice none 0 0), int 0, int 1] by rw [infA, if_pos (.inl c1)]; rfl]
    repeat (first | refine wA ?_ | refine wB ?_ | refine wC rfl ?_ | refine wD rfl ?_ | refine wE ?_ | refine wF (by omega) ?_ | ((first | refine wG ?_ | refine wH ?_ | refine wI ?_ | refine wJ ?_ | refine wK ?_ | refine wL ?_); simp (disch := omega) only [wP, wZ, undef, seval, if_pos, if_neg, aStore, frz, AV.flat, ↓reduceIte, ne_eq, reduceCtorEq, ByteArray.size, d1]))
  have d1 := decide_eq_false c1
  by_cases c2 : 16777216 < most
  · have d2 := decide_eq_true c2
    rw [show gotG (infA F b most) = .agg [.sc (.slice none 0 0), int 0, int 1] by rw [infA, if_pos (.inr c2)]; rfl]
    repeat (first | refine wA ?_ | refine wB ?_ | refine wC rfl ?_ | refine wD rfl ?_ | refine wE ?_ | refine wF (by omega) ?_ | ((first | refine wG ?_ | refine wH ?_ | refine wI ?_ | refine wJ ?_ | refine wK ?_ | refine wL ?_); simp (disch := omega) only [wP, wZ, undef, seval, if_pos, if_neg, aStore, frz, AV.flat, ↓reduceIte, ne_eq, reduceCtorEq, ByteArray.size, d1, d2]))
  have d2 := decide_eq_false c2
  rw [show infA F b most = infR F b most.toNat by rw [infA, if_neg (by omega)]]
  obtain ⟨m, hm⟩ : ∃ m : Nat, most = (m : Int) := ⟨most.toNat, by omega⟩
  subst hm
  rw [Int.toNat_natCast]
  have hm : m ≤ 16777216 := by omega
  obtain ⟨r, hr⟩ : ∃ r, (infT m F F []).run (bitsL b) 0 = r := ⟨_, rfl⟩
  have hse := fun e (q : (infT m F F []).run (bitsL b) 0 = .no e) => safe_run (safe_inf _ _) q
  rw [hr] at hse
  rw [infR, hr]
  have pB := ref_Bits_c nl b (by omega)
  obtain ⟨nb, hnb⟩ : ∃ nb, nb = nl0 b.length := ⟨_, rfl⟩
  rw [← hnb] at pB
  clear hnb
  have hBl : (bitsL b).length = 8 * b.length := length_bitsL
  have hNum := fun i e hi out n hn => rf_number_h nb (bitsL b) (by rw [hBl]; omega) bitsL_lt m i e hi out n hn
  repeat (first | refine wA ?_ | refine wB ?_ | refine wC rfl ?_ | refine wD rfl ?_ | refine wE ?_ | refine wF (by omega) ?_ | ((first | refine wG ?_ | refine wH ?_ | refine wI ?_ | refine wJ ?_ | refine wK ?_ | refine wL ?_); simp (disch := omega) only [wP, wZ, undef, seval, if_pos, if_neg, aStore, frz, AV.flat, ↓reduceIte, ne_eq, reduceCtorEq, ByteArray.size, d1, d2]))
  refine goC_p _ (.inl ⟨by simp only [AV.free, AV.free.freeL, free_u8, Bool.and_self], pB⟩) ?_
  iterate 1 (first | refine wA ?_ | refine wB ?_ | refine wC rfl ?_ | refine wD rfl ?_ | refine wE ?_ | refine wF (by omega) ?_ | ((first | refine wG ?_ | refine wH ?_ | refine wI ?_ | refine wJ ?_ | refine wK ?_ | refine wL ?_); simp (disch := omega) only [wP, wZ, undef, seval, if_pos, if_neg, aStore, frz, AV.flat, ↓reduceIte, ne_eq, reduceCtorEq, ByteArray.size]))
  refine SWp.adoptC 19 1 2 100 none (nl := false) (cells := [.sl nb none ((bitsL b).map nA), int 0, .sc (.slice none 0 0), int (m : Int), int 0]) (by simp (disch := omega) only [wP, wZ, undef, seval, if_pos, if_neg, aStore, frz, AV.flat, ↓reduceIte, ne_eq, reduceCtorEq, ByteArray.size]) rfl (by decide) ?_
  repeat (first | refine wA ?_ | refine wB ?_ | refine wC rfl ?_ | refine wD rfl ?_ | refine wE ?_ | refine wF (by omega) ?_ | ((first | refine wG ?_ | refine wH ?_ | refine wI ?_ | refine wJ ?_ | refine wK ?_ | refine wL ?_); simp (disch := omega) only [wP, wZ, undef, seval, if_pos, if_neg, aStore, frz, AV.flat, ↓reduceIte, ne_eq, reduceCtorEq, ByteArray.size, List.set_cons_zero, List.set_cons_succ]))
  refine SWp.loop (α := RfX) (rfF nb (bitsL b) m) (rfI b m F r) rfM (.inl (F, [], 0, 2, 3)) ⟨hr, Nat.zero_le _, by omega, Nat.zero_le _⟩ (le_mk rfl ?_ ?_ ?_) ?_
  · exact Nat.le_refl _
  · simp (disch := omega) only [wP, wZ, undef, seval, if_pos, if_neg, aStore, frz, AV.flat, ↓reduceIte, ne_eq, reduceCtorEq, ByteArray.size]
  · simp (disch := omega) only [wP, wZ, undef, seval, if_pos, if_neg, aStore, frz, AV.flat, ↓reduceIte, ne_eq, reduceCtorEq, ByteArray.size, nl0_zero]
    rfl
  clear hr
  rintro (⟨f, o, i, g, c⟩ | ⟨j1, j2, j3, j4, e, c⟩) hI -
  · obtain ⟨hx, hi, hf, ho⟩ := hI
    obtain ⟨f, rfl⟩ : ∃ f', f = f' + 1 := ⟨f - 1, by omega⟩
    have hbk := fun p j (q : (blkT m F o).run (bitsL b) i = .ok p j) => blkT_ok hi ho q
    rw [infT, run_bnd] at hx
    have cn1 := hNum i 0 (by omega) o 1 (by omega)
    obtain ⟨⟨x, p1, e1⟩, h1⟩ : ∃ s, nuS (bitsL b) 1 i 0 = s := ⟨_, rfl⟩
    have f1 := nuS_fact (b := b) (n := 1) (i := i) (e := 0) (by omega) hi
    rw [h1] at f1 cn1
    have cn2 := hNum p1 e1 (by rw [hBl]; exact f1.2) o 2 (by omega)
    obtain ⟨⟨y, p2, e2⟩, h2⟩ : ∃ s, nuS (bitsL b) 2 p1 e1 = s := ⟨_, rfl⟩
    have hh := blk_head (most := m) (F := F) (out := o) hi h1 h2
    rw [h2] at cn2
    simp only at cn1 cn2
    clear f1 h1 h2 hNum
    unfold rfF
    rcases hh with ⟨rfl, hx2, hy4, hp2, hbl⟩ | ⟨he, hbl⟩
    · rw [hbl] at hx hbk
      have hse := fun e (q : (bodT m F o y).run (bitsL b) p2 = .no e) => safe_run safe_bod q
      obtain ⟨r1, hr1⟩ : ∃ r1, (bodT m F o y).run (bitsL b) p2 = r1 := ⟨_, rfl⟩
      rw [hr1] at hx hbk hse
      rw [bodT] at hr1
      by_cases k0 : y = 0
      · rw [if_pos k0] at hr1
        subst k0
        have cS := rf_stored_h nb b hb m hm p2 hp2 o ho r1 hr1
        repeat (first | refine wA ?_ | refine wB ?_ | refine wC rfl ?_ | refine wD rfl ?_ | refine wE ?_ | refine wF (by omega) ?_ | ((first | refine wG ?_ | refine wH ?_ | refine wI ?_ | refine wJ ?_ | refine wK ?_ | refine wL ?_); simp (disch := omega) only [wP, wZ, undef, seval, if_pos, if_neg, aStore, frz, AV.flat, ↓reduceIte, ne_eq, reduceCtorEq, ByteArray.size]))
        refine goC_h [(19, 1), (100, g)] 7000 cn1 (by simp) (by simp) ?_ ?_ ?_
        iterate 2 (case _ => simp (disch := omega) only [wP, wZ, undef, seval, if_pos, if_neg, aStore, frz, AV.flat, ↓reduceIte, ne_eq, reduceCtorEq, ByteArray.size, stI, stR, iR])
        repeat (first | refine wA ?_ | refine wB ?_ | refine wC rfl ?_ | refine wD rfl ?_ | refine wE ?_ | refine wF (by omega) ?_ | ((first | refine wG ?_ | refine wH ?_ | refine wI ?_ | refine wJ ?_ | refine wK ?_ | refine wL ?_); simp (disch := omega) only [wP, wZ, undef, seval, if_pos, if_neg, aStore, frz, AV.flat, ↓reduceIte, ne_eq, reduceCtorEq, ByteArray.size, stO, stR, iR]))
        refine goC_h [(19, 1), (100, g)] 8000 cn2 (by simp) (by simp) ?_ ?_ ?_
        iterate 2 (case _ => simp (disch := omega) only [wP, wZ, undef, seval, if_pos, if_neg, aStore, frz, AV.flat, ↓reduceIte, ne_eq, reduceCtorEq, ByteArray.size, stI, stR, iR])
        repeat (first | refine wA ?_ | refine wB ?_ | refine wC rfl ?_ | refine wD rfl ?_ | refine wE ?_ | refine wF (by omega) ?_ | ((first | refine wG ?_ | refine wH ?_ | refine wI ?_ | refine wJ ?_ | refine wK ?_ | refine wL ?_); simp (disch := omega) only [wP, wZ, undef, seval, if_pos, if_neg, aStore, frz, AV.flat, ↓reduceIte, ne_eq, reduceCtorEq, ByteArray.size, stO, stR, iR]))
        refine goC_h [(19, 1), (100, g)] 9000 cS (by simp) (by simp) ?_ ?_ ?_
        iterate 2 (case _ => simp (disch := omega) only [wP, wZ, undef, seval, if_pos, if_neg, aStore, frz, AV.flat, ↓reduceIte, ne_eq, reduceCtorEq, ByteArray.size, stI, stR, iR])
        cases r1 with
        | no e =>
          have he := (hse e rfl).1
          simp only [BR.bnd] at hx
          subst hx
          have de : decide ((e : Int) = 0) = false := decide_eq_false (by omega)
          by_cases cx : x = 1
          · have dx : decide ((x : Int) = 1) = true := decide_eq_true (by omega)
            repeat (first | refine wA ?_ | refine wB ?_ | refine wC rfl ?_ | refine wD rfl ?_ | refine wE ?_ | refine wF (by omega) ?_ | ((first | refine wG ?_ | refine wH ?_ | refine wI ?_ | refine wJ ?_ | refine wK ?_ | refine wL ?_); simp (disch := omega) only [wP, wZ, undef, seval, if_pos, if_neg, aStore, frz, AV.flat, ↓reduceIte, ne_eq, reduceCtorEq, ByteArray.size, houC, jkR, iR, de, dx]))
            refine At.of (.inr (.junk, .junk, .junk, .junk, e, _)) ⟨rfl, he⟩ (Nat.succ_pos _) rfl rfl (Nat.le_refl _) ?_ ?_
            iterate 2 (case _ => simp (disch := omega) only [wP, wZ, undef, seval, if_pos, if_neg, aStore, frz, AV.flat, ↓reduceIte, ne_eq, reduceCtorEq, ByteArray.size, rfF, jkR, iR])
          · have dx : decide ((x : Int) = 1) = false := decide_eq_false (by omega)
            repeat (first | refine wA ?_ | refine wB ?_ | refine wC rfl ?_ | refine wD rfl ?_ | refine wE ?_ | refine wF (by omega) ?_ | ((first | refine wG ?_ | refine wH ?_ | refine wI ?_ | refine wJ ?_ | refine wK ?_ | refine wL ?_); simp (disch := omega) only [wP, wZ, undef, seval, if_pos, if_neg, aStore, frz, AV.flat, ↓reduceIte, ne_eq, reduceCtorEq, ByteArray.size, houC, jkR, iR, de, dx]))
            refine At.of (.inr (.junk, .junk, .junk, .junk, e, _)) ⟨rfl, he⟩ (Nat.succ_pos _) rfl rfl (Nat.le_refl _) ?_ ?_
            iterate 2 (case _ => simp (disch := omega) only [wP, wZ, undef, seval, if_pos, if_neg, aStore, frz, AV.flat, ↓reduceIte, ne_eq, reduceCtorEq, ByteArray.size, rfF, jkR, iR])
        | ok o2 j =>
          simp only [BR.bnd] at hx hbk
          obtain ⟨hij, hj, ho2⟩ := hbk _ _ rfl
          by_cases cx : x = 1
          · have dx : decide ((x : Int) = 1) = true := decide_eq_true (by omega)
            rw [decide_eq_true cx, if_pos rfl] at hx
            simp only [BT.run] at hx
            subst hx
            simp only [gotR]
            rw [gotG_ok]
            obtain ⟨w, hw⟩ : ∃ w, w = j + 7 := ⟨_, rfl⟩
            have ew : (j : Int) + 7 = (w : Int) := by omega
            rw [← hw]
            repeat (first | refine wA ?_ | refine wB ?_ | refine wC rfl ?_ | refine wD rfl ?_ | refine wE ?_ | refine wF (by omega) ?_ | ((first | refine wG ?_ | refine wH ?_ | refine wI ?_ | refine wJ ?_ | refine wK ?_ | refine wL ?_); simp (disch := omega) only [wP, wZ, undef, seval, if_pos, if_neg, aStore, frz, AV.flat, ↓reduceIte, ne_eq, reduceCtorEq, ByteArray.size, houC, stO, stR, iR, dx, ew]))
          · have dx : decide ((x : Int) = 1) = false := decide_eq_false (by omega)
            rw [decide_eq_false cx, if_neg (by simp)] at hx
            repeat (first | refine wA ?_ | refine wB ?_ | refine wC rfl ?_ | refine wD rfl ?_ | refine wE ?_ | refine wF (by omega) ?_ | ((first | refine wG ?_ | refine wH ?_ | refine wI ?_ | refine wJ ?_ | refine wK ?_ | refine wL ?_); simp (disch := omega) only [wP, wZ, undef, seval, if_pos, if_neg, aStore, frz, AV.flat, ↓reduceIte, ne_eq, reduceCtorEq, ByteArray.size, houC, stO, stR, iR, dx]))
            refine At.of (.inl (f, o2, j, c + 1 + 1 + 200000, c + 1 + 1 + 200001)) ⟨hx, hj, by omega, ho2⟩ (Nat.lt_succ_self _) rfl rfl (by simp only; omega) ?_ ?_
            · simp (disch := omega) only [wP, wZ, undef, seval, if_pos, if_neg, aStore, frz, AV.flat, ↓reduceIte, ne_eq, reduceCtorEq, ByteArray.size, rfF]
              try omega
            · simp (disch := omega) only [wP, wZ, undef, seval, if_pos, if_neg, aStore, frz, AV.flat, ↓reduceIte, ne_eq, reduceCtorEq, ByteArray.size, rfF, iR]
              try omega
      · rw [if_neg k0] at hr1
        have dk0 : decide ((y : Int) = 0) = false := decide_eq_false (by omega)
        by_cases k1 : y = 1
        · rw [if_pos k1] at hr1
          subst k1
          have cC := rf_coded_h nb (bitsL b) (by omega) bitsL_lt m hm p2 (by omega) o ho false false fixL (by rw [fixL_facts.2.1]; omega) fixL_facts.1 (by rw [fixL_facts.2.2]; omega) false false fixD (by rw [fixD_facts.2.1]; omega) fixD_facts.1 (by rw [fixD_facts.2.2]; omega) F (by omega) r1 hr1
          have cM := rf_made_c false fixD fixD_facts.1 (by rw [fixD_facts.2.1]; omega) (by rw [fixD_facts.2.2]; omega)
          rw [show fixD.isEmpty = false from rfl] at cM
          have cT := rf_times_h 5 32 (by omega)
          rw [show List.replicate 32 5 = fixD from rfl] at cT
          have lD : fixD.length = 32 := fixD_facts.2.1
          have lDt : fixD.take 32 = fixD := List.take_of_length_le (by omega)
          repeat (first | refine wA ?_ | refine wB ?_ | refine wC rfl ?_ | refine wD rfl ?_ | refine wE ?_ | refine wF (by omega) ?_ | ((first | refine wG ?_ | refine wH ?_ | refine wI ?_ | refine wJ ?_ | refine wK ?_ | refine wL ?_); simp (disch := omega) only [wP, wZ, undef, seval, if_pos, if_neg, aStore, frz, AV.flat, ↓reduceIte, ne_eq, reduceCtorEq, ByteArray.size]))
          refine goC_h [(19, 1), (100, g)] 7000 cn1 (by simp) (by simp) ?_ ?_ ?_
          iterate 2 (case _ => simp (disch := omega) only [wP, wZ, undef, seval, if_pos, if_neg, aStore, frz, AV.flat, ↓reduceIte, ne_eq, reduceCtorEq, ByteArray.size, stI, stR, iR])
          repeat (first | refine wA ?_ | refine wB ?_ | refine wC rfl ?_ | refine wD rfl ?_ | refine wE ?_ | refine wF (by omega) ?_ | ((first | refine wG ?_ | refine wH ?_ | refine wI ?_ | refine wJ ?_ | refine wK ?_ | refine wL ?_); simp (disch := omega) only [wP, wZ, undef, seval, if_pos, if_neg, aStore, frz, AV.flat, ↓reduceIte, ne_eq, reduceCtorEq, ByteArray.size, stO, stR, iR]))
          refine goC_h [(19, 1), (100, g)] 8000 cn2 (by simp) (by simp) ?_ ?_ ?_
          iterate 2 (case _ => simp (disch := omega) only [wP, wZ, undef, seval, if_pos, if_neg, aStore, frz, AV.flat, ↓reduceIte, ne_eq, reduceCtorEq, ByteArray.size, stI, stR, iR])
          repeat (first | refine wA ?_ | refine wB ?_ | refine wC rfl ?_ | refine wD rfl ?_ | refine wE ?_ | refine wF (by omega) ?_ | ((first | refine wG ?_ | refine wH ?_ | refine wI ?_ | refine wJ ?_ | refine wK ?_ | refine wL ?_); simp (disch := omega) only [wP, wZ, undef, seval, if_pos, if_neg, aStore, frz, AV.flat, ↓reduceIte, ne_eq, reduceCtorEq, ByteArray.size, stO, stR, iR]))
          refine goC_p _ (.inl ⟨rfl, rf_fixed_c⟩) ?_
          repeat (first | refine wA ?_ | refine wB ?_ | refine wC rfl ?_ | refine wD rfl ?_ | refine wE ?_ | refine wF (by omega) ?_ | ((first | refine wG ?_ | refine wH ?_ | refine wI ?_ | refine wJ ?_ | refine wK ?_ | refine wL ?_); simp (disch := omega) only [wP, wZ, undef, seval, if_pos, if_neg, aStore, frz, AV.flat, ↓reduceIte, ne_eq, reduceCtorEq, ByteArray.size, stO, stR, iR]))
          refine goC_h [] 9000 cT (by simp) (by simp) ?_ ?_ ?_
          iterate 2 (case _ => simp (disch := omega) only [wP, wZ, undef, seval, if_pos, if_neg, aStore, frz, AV.flat, ↓reduceIte, ne_eq, reduceCtorEq, ByteArray.size, cdA, iR])
          repeat (first | refine wA ?_ | refine wB ?_ | refine wC rfl ?_ | refine wD rfl ?_ | refine wE ?_ | refine wF (by omega) ?_ | ((first | refine wG ?_ | refine wH ?_ | refine wI ?_ | refine wJ ?_ | refine wK ?_ | refine wL ?_); simp (disch := omega) only [wP, wZ, undef, seval, if_pos, if_neg, aStore, frz, AV.flat, ↓reduceIte, ne_eq, reduceCtorEq, ByteArray.size, stO, stR, iR]))
          refine goC_f 9005 (c + 1 + 1 + 35) (nl := false) (cells := fixD.map nA) [.sl false none (fixD.map nA)] _ (by simp (disch := omega) only [wP, wZ, undef, seval, if_pos, if_neg, aStore, frz, AV.flat, ↓reduceIte, ne_eq, reduceCtorEq, ByteArray.size]; rfl) free_nA ?_ (by simp only [AV.free, AV.free.freeL, free_nA, Bool.and_self]) cM ?_
          · simp (disch := omega) only [wP, wZ, undef, seval, if_pos, if_neg, aStore, frz, AV.flat, ↓reduceIte, ne_eq, reduceCtorEq, ByteArray.size, fR, iR, lD, lDt]
          repeat (first | refine wA ?_ | refine wB ?_ | refine wC rfl ?_ | refine wD rfl ?_ | refine wE ?_ | refine wF (by omega) ?_ | ((first | refine wG ?_ | refine wH ?_ | refine wI ?_ | refine wJ ?_ | refine wK ?_ | refine wL ?_); simp (disch := omega) only [wP, wZ, undef, seval, if_pos, if_neg, aStore, frz, AV.flat, ↓reduceIte, ne_eq, reduceCtorEq, ByteArray.size, stO, stR, iR]))
          refine goC_h [(19, 1), (100, g)] 10000 cC (by simp) (by simp) ?_ ?_ ?_
          iterate 2 (case _ => simp (disch := omega) only [wP, wZ, undef, seval, if_pos, if_neg, aStore, frz, AV.flat, ↓reduceIte, ne_eq, reduceCtorEq, ByteArray.size, stI, stR, iR, cdA])
          cases r1 with
          | no e =>
            have he := (hse e rfl).1
            simp only [BR.bnd] at hx
            subst hx
            have de : decide ((e : Int) = 0) = false := decide_eq_false (by omega)
            by_cases cx : x = 1
            · have dx : decide ((x : Int) = 1) = true := decide_eq_true (by omega)
              repeat (first | refine wA ?_ | refine wB ?_ | refine wC rfl ?_ | refine wD rfl ?_ | refine wE ?_ | refine wF (by omega) ?_ | ((first | refine wG ?_ | refine wH ?_ | refine wI ?_ | refine wJ ?_ | refine wK ?_ | refine wL ?_); simp (disch := omega) only [wP, wZ, undef, seval, if_pos, if_neg, aStore, frz, AV.flat, ↓reduceIte, ne_eq, reduceCtorEq, ByteArray.size, houC, jkR, iR, de, dx]))
              refine At.of (.inr (.junk, .junk, .junk, .junk, e, _)) ⟨rfl, he⟩ (Nat.succ_pos _) rfl rfl (Nat.le_refl _) ?_ ?_
              iterate 2 (case _ => simp (disch := omega) only [wP, wZ, undef, seval, if_pos, if_neg, aStore, frz, AV.flat, ↓reduceIte, ne_eq, reduceCtorEq, ByteArray.size, rfF, jkR, iR])
            · have dx : decide ((x : Int) = 1) = false := decide_eq_false (by omega)
              repeat (first | refine wA ?_ | refine wB ?_ | refine wC rfl ?_ | refine wD rfl ?_ | refine wE ?_ | refine wF (by omega) ?_ | ((first | refine wG ?_ | refine wH ?_ | refine wI ?_ | refine wJ ?_ | refine wK ?_ | refine wL ?_); simp (disch := omega) only [wP, wZ, undef, seval, if_pos, if_neg, aStore, frz, AV.flat, ↓reduceIte, ne_eq, reduceCtorEq, ByteArray.size, houC, jkR, iR, de, dx]))
              refine At.of (.inr (.junk, .junk, .junk, .junk, e, _)) ⟨rfl, he⟩ (Nat.succ_pos _) rfl rfl (Nat.le_refl _) ?_ ?_
              iterate 2 (case _ => simp (disch := omega) only [wP, wZ, undef, seval, if_pos, if_neg, aStore, frz, AV.flat, ↓reduceIte, ne_eq, reduceCtorEq, ByteArray.size, rfF, jkR, iR])
          | ok o2 j =>
            simp only [BR.bnd] at hx hbk
            obtain ⟨hij, hj, ho2⟩ := hbk _ _ rfl
            by_cases cx : x = 1
            · have dx : decide ((x : Int) = 1) = true := decide_eq_true (by omega)
              rw [decide_eq_true cx, if_pos rfl] at hx
              simp only [BT.run] at hx
              subst hx
              simp only [gotR]
              rw [gotG_ok]
              obtain ⟨w, hw⟩ : ∃ w, w = j + 7 := ⟨_, rfl⟩
              have ew : (j : Int) + 7 = (w : Int) := by omega
              rw [← hw]
              repeat (first | refine wA ?_ | refine wB ?_ | refine wC rfl ?_ | refine wD rfl ?_ | refine wE ?_ | refine wF (by omega) ?_ | ((first | refine wG ?_ | refine wH ?_ | refine wI ?_ | refine wJ ?_ | refine wK ?_ | refine wL ?_); simp (disch := omega) only [wP, wZ, undef, seval, if_pos, if_neg, aStore, frz, AV.flat, ↓reduceIte, ne_eq, reduceCtorEq, ByteArray.size, houC, stO, stR, iR, dx, ew]))
            · have dx : decide ((x : Int) = 1) = false := decide_eq_false (by omega)
              rw [decide_eq_false cx, if_neg (by simp)] at hx
              repeat (first | refine wA ?_ | refine wB ?_ | refine wC rfl ?_ | refine wD rfl ?_ | refine wE ?_ | refine wF (by omega) ?_ | ((first | refine wG ?_ | refine wH ?_ | refine wI ?_ | refine wJ ?_ | refine wK ?_ | refine wL ?_); simp (disch := omega) only [wP, wZ, undef, seval, if_pos, if_neg, aStore, frz, AV.flat, ↓reduceIte, ne_eq, reduceCtorEq, ByteArray.size, houC, stO, stR, iR, dx]))
              refine At.of (.inl (f, o2, j, c + 1 + 1 + 36 + (1000 * F + 3), c + 1 + 1 + 36 + (1000 * F + 4))) ⟨hx, hj, by omega, ho2⟩ (Nat.lt_succ_self _) rfl rfl (by simp only; omega) ?_ ?_
              · simp (disch := omega) only [wP, wZ, undef, seval, if_pos, if_neg, aStore, frz, AV.flat, ↓reduceIte, ne_eq, reduceCtorEq, ByteArray.size, rfF]
                try omega
              · simp (disch := omega) only [wP, wZ, undef, seval, if_pos, if_neg, aStore, frz, AV.flat, ↓reduceIte, ne_eq, reduceCtorEq, ByteArray.size, rfF, iR]
                try omega
        · rw [if_neg k1] at hr1
          have dk1 : decide ((y : Int) = 1) = false := decide_eq_false (by omega)
          by_cases k2 : y = 2
          · rw [if_pos k2] at hr1
            subst k2
            have cT := rf_told_h nb b hb m hm p2 hp2 o ho F hF r1 hr1
            repeat (first | refine wA ?_ | refine wB ?_ | refine wC rfl ?_ | refine wD rfl ?_ | refine wE ?_ | refine wF (by omega) ?_ | ((first | refine wG ?_ | refine wH ?_ | refine wI ?_ | refine wJ ?_ | refine wK ?_ | refine wL ?_); simp (disch := omega) only [wP, wZ, undef, seval, if_pos, if_neg, aStore, frz, AV.flat, ↓reduceIte, ne_eq, reduceCtorEq, ByteArray.size]))
            refine goC_h [(19, 1), (100, g)] 7000 cn1 (by simp) (by simp) ?_ ?_ ?_
            iterate 2 (case _ => simp (disch := omega) only [wP, wZ, undef, seval, if_pos, if_neg, aStore, frz, AV.flat, ↓reduceIte, ne_eq, reduceCtorEq, ByteArray.size, stI, stR, iR])
            repeat (first | refine wA ?_ | refine wB ?_ | refine wC rfl ?_ | refine wD rfl ?_ | refine wE ?_ | refine wF (by omega) ?_ | ((first | refine wG ?_ | refine wH ?_ | refine wI ?_ | refine wJ ?_ | refine wK ?_ | refine wL ?_); simp (disch := omega) only [wP, wZ, undef, seval, if_pos, if_neg, aStore, frz, AV.flat, ↓reduceIte, ne_eq, reduceCtorEq, ByteArray.size, stO, stR, iR]))
            refine goC_h [(19, 1), (100, g)] 8000 cn2 (by simp) (by simp) ?_ ?_ ?_
            iterate 2 (case _ => simp (disch := omega) only [wP, wZ, undef, seval, if_pos, if_neg, aStore, frz, AV.flat, ↓reduceIte, ne_eq, reduceCtorEq, ByteArray.size, stI, stR, iR])
            repeat (first | refine wA ?_ | refine wB ?_ | refine wC rfl ?_ | refine wD rfl ?_ | refine wE ?_ | refine wF (by omega) ?_ | ((first | refine wG ?_ | refine wH ?_ | refine wI ?_ | refine wJ ?_ | refine wK ?_ | refine wL ?_); simp (disch := omega) only [wP, wZ, undef, seval, if_pos, if_neg, aStore, frz, AV.flat, ↓reduceIte, ne_eq, reduceCtorEq, ByteArray.size, stO, stR, iR]))
            refine goC_h [(19, 1), (100, g)] 9000 cT (by simp) (by simp) ?_ ?_ ?_
            iterate 2 (case _ => simp (disch := omega) only [wP, wZ, undef, seval, if_pos, if_neg, aStore, frz, AV.flat, ↓reduceIte, ne_eq, reduceCtorEq, ByteArray.size, stI, stR, iR])
            cases r1 with
            | no e =>
              have he := (hse e rfl).1
              simp only [BR.bnd] at hx
              subst hx
              have de : decide ((e : Int) = 0) = false := decide_eq_false (by omega)
              by_cases cx : x = 1
              · have dx : decide ((x : Int) = 1) = true := decide_eq_true (by omega)
                repeat (first | refine wA ?_ | refine wB ?_ | refine wC rfl ?_ | refine wD rfl ?_ | refine wE ?_ | refine wF (by omega) ?_ | ((first | refine wG ?_ | refine wH ?_ | refine wI ?_ | refine wJ ?_ | refine wK ?_ | refine wL ?_); simp (disch := omega) only [wP, wZ, undef, seval, if_pos, if_neg, aStore, frz, AV.flat, ↓reduceIte, ne_eq, reduceCtorEq, ByteArray.size, houC, jkR, iR, de, dx]))
                refine At.of (.inr (.junk, .junk, .junk, .junk, e, _)) ⟨rfl, he⟩ (Nat.succ_pos _) rfl rfl (Nat.le_refl _) ?_ ?_
                iterate 2 (case _ => simp (disch := omega) only [wP, wZ, undef, seval, if_pos, if_neg, aStore, frz, AV.flat, ↓reduceIte, ne_eq, reduceCtorEq, ByteArray.size, rfF, jkR, iR])
              · have dx : decide ((x : Int) = 1) = false := decide_eq_false (by omega)
                repeat (first | refine wA ?_ | refine wB ?_ | refine wC rfl ?_ | refine wD rfl ?_ | refine wE ?_ | refine wF (by omega) ?_ | ((first | refine wG ?_ | refine wH ?_ | refine wI ?_ | refine wJ ?_ | refine wK ?_ | refine wL ?_); simp (disch := omega) only [wP, wZ, undef, seval, if_pos, if_neg, aStore, frz, AV.flat, ↓reduceIte, ne_eq, reduceCtorEq, ByteArray.size, houC, jkR, iR, de, dx]))
                refine At.of (.inr (.junk, .junk, .junk, .junk, e, _)) ⟨rfl, he⟩ (Nat.succ_pos _) rfl rfl (Nat.le_refl _) ?_ ?_
                iterate 2 (case _ => simp (disch := omega) only [wP, wZ, undef, seval, if_pos, if_neg, aStore, frz, AV.flat, ↓reduceIte, ne_eq, reduceCtorEq, ByteArray.size, rfF, jkR, iR])
            | ok o2 j =>
              simp only [BR.bnd] at hx hbk
              obtain ⟨hij, hj, ho2⟩ := hbk _ _ rfl
              by_cases cx : x = 1
              · have dx : decide ((x : Int) = 1) = true := decide_eq_true (by omega)
                rw [decide_eq_true cx, if_pos rfl] at hx
                simp only [BT.run] at hx
                subst hx
                simp only [gotR]
                rw [gotG_ok]
                obtain ⟨w, hw⟩ : ∃ w, w = j + 7 := ⟨_, rfl⟩
                have ew : (j : Int) + 7 = (w : Int) := by omega
                rw [← hw]
                repeat (first | refine wA ?_ | refine wB ?_ | refine wC rfl ?_ | refine wD rfl ?_ | refine wE ?_ | refine wF (by omega) ?_ | ((first | refine wG ?_ | refine wH ?_ | refine wI ?_ | refine wJ ?_ | refine wK ?_ | refine wL ?_); simp (disch := omega) only [wP, wZ, undef, seval, if_pos, if_neg, aStore, frz, AV.flat, ↓reduceIte, ne_eq, reduceCtorEq, ByteArray.size, houC, stO, stR, iR, dx, ew]))
              · have dx : decide ((x : Int) = 1) = false := decide_eq_false (by omega)
                rw [decide_eq_false cx, if_neg (by simp)] at hx
                repeat (first | refine wA ?_ | refine wB ?_ | refine wC rfl ?_ | refine wD rfl ?_ | refine wE ?_ | refine wF (by omega) ?_ | ((first | refine wG ?_ | refine wH ?_ | refine wI ?_ | refine wJ ?_ | refine wK ?_ | refine wL ?_); simp (disch := omega) only [wP, wZ, undef, seval, if_pos, if_neg, aStore, frz, AV.flat, ↓reduceIte, ne_eq, reduceCtorEq, ByteArray.size, houC, stO, stR, iR, dx]))
                refine At.of (.inl (f, o2, j, c + 1 + 1 + (1000 * F + 500000), c + 1 + 1 + (1000 * F + 500001))) ⟨hx, hj, by omega, ho2⟩ (Nat.lt_succ_self _) rfl rfl (by simp only; omega) ?_ ?_
                · simp (disch := omega) only [wP, wZ, undef, seval, if_pos, if_neg, aStore, frz, AV.flat, ↓reduceIte, ne_eq, reduceCtorEq, ByteArray.size, rfF]
                  try omega
                · simp (disch := omega) only [wP, wZ, undef, seval, if_pos, if_neg, aStore, frz, AV.flat, ↓reduceIte, ne_eq, reduceCtorEq, ByteArray.size, rfF, iR]
                  try omega
          · rw [if_neg k2] at hr1
            simp only [BT.run] at hr1
            subst hr1
            simp only [BR.bnd] at hx
            subst hx
            have dk2 : decide ((y : Int) = 2) = false := decide_eq_false (by omega)
            repeat (first | refine wA ?_ | refine wB ?_ | refine wC rfl ?_ | refine wD rfl ?_ | refine wE ?_ | refine wF (by omega) ?_ | ((first | refine wG ?_ | refine wH ?_ | refine wI ?_ | refine wJ ?_ | refine wK ?_ | refine wL ?_); simp (disch := omega) only [wP, wZ, undef, seval, if_pos, if_neg, aStore, frz, AV.flat, ↓reduceIte, ne_eq, reduceCtorEq, ByteArray.size]))
            refine goC_h [(19, 1), (100, g)] 7000 cn1 (by simp) (by simp) ?_ ?_ ?_
            iterate 2 (case _ => simp (disch := omega) only [wP, wZ, undef, seval, if_pos, if_neg, aStore, frz, AV.flat, ↓reduceIte, ne_eq, reduceCtorEq, ByteArray.size, stI, stR, iR])
            repeat (first | refine wA ?_ | refine wB ?_ | refine wC rfl ?_ | refine wD rfl ?_ | refine wE ?_ | refine wF (by omega) ?_ | ((first | refine wG ?_ | refine wH ?_ | refine wI ?_ | refine wJ ?_ | refine wK ?_ | refine wL ?_); simp (disch := omega) only [wP, wZ, undef, seval, if_pos, if_neg, aStore, frz, AV.flat, ↓reduceIte, ne_eq, reduceCtorEq, ByteArray.size, stO, stR, iR]))
            refine goC_h [(19, 1), (100, g)] 8000 cn2 (by simp) (by simp) ?_ ?_ ?_
            iterate 2 (case _ => simp (disch := omega) only [wP, wZ, undef, seval, if_pos, if_neg, aStore, frz, AV.flat, ↓reduceIte, ne_eq, reduceCtorEq, ByteArray.size, stI, stR, iR])
            repeat (first | refine wA ?_ | refine wB ?_ | refine wC rfl ?_ | refine wD rfl ?_ | refine wE ?_ | refine wF (by omega) ?_ | ((first | refine wG ?_ | refine wH ?_ | refine wI ?_ | refine wJ ?_ | refine wK ?_ | refine wL ?_); simp (disch := omega) only [wP, wZ, undef, seval, if_pos, if_neg, aStore, frz, AV.flat, ↓reduceIte, ne_eq, reduceCtorEq, ByteArray.size, stO, stR, iR, dk0, dk1, dk2]))
            by_cases cx : x = 1
            · have dx : decide ((x : Int) = 1) = true := decide_eq_true (by omega)
              simp (disch := omega) only [wP, wZ, undef, seval, if_pos, if_neg, aStore, frz, AV.flat, ↓reduceIte, ne_eq, reduceCtorEq, ByteArray.size, stR, iR, dx]
              repeat (first | refine wA ?_ | refine wB ?_ | refine wC rfl ?_ | refine wD rfl ?_ | refine wE ?_ | refine wF (by omega) ?_ | ((first | refine wG ?_ | refine wH ?_ | refine wI ?_ | refine wJ ?_ | refine wK ?_ | refine wL ?_); simp (disch := omega) only [wP, wZ, undef, seval, if_pos, if_neg, aStore, frz, AV.flat, ↓reduceIte, ne_eq, reduceCtorEq, ByteArray.size, stR, iR, dx]))
              refine At.of (.inr (.sl nb none ((bitsL b).map nA), int (p2 : Int), .own 100 g none 0 o.length, int (m : Int), 3, _)) ⟨rfl, by simp⟩ (Nat.succ_pos _) rfl rfl (Nat.le_refl _) ?_ ?_
              · simp (disch := omega) only [wP, wZ, undef, seval, if_pos, if_neg, aStore, frz, AV.flat, ↓reduceIte, ne_eq, reduceCtorEq, ByteArray.size, rfF]
              · simp (disch := omega) only [wP, wZ, undef, seval, if_pos, if_neg, aStore, frz, AV.flat, ↓reduceIte, ne_eq, reduceCtorEq, ByteArray.size, rfF, iR]
                try rfl
            · have dx : decide ((x : Int) = 1) = false := decide_eq_false (by omega)
              simp (disch := omega) only [wP, wZ, undef, seval, if_pos, if_neg, aStore, frz, AV.flat, ↓reduceIte, ne_eq, reduceCtorEq, ByteArray.size, stR, iR, dx]
              repeat (first | refine wA ?_ | refine wB ?_ | refine wC rfl ?_ | refine wD rfl ?_ | refine wE ?_ | refine wF (by omega) ?_ | ((first | refine wG ?_ | refine wH ?_ | refine wI ?_ | refine wJ ?_ | refine wK ?_ | refine wL ?_); simp (disch := omega) only [wP, wZ, undef, seval, if_pos, if_neg, aStore, frz, AV.flat, ↓reduceIte, ne_eq, reduceCtorEq, ByteArray.size, stR, iR, dx]))
              refine At.of (.inr (.sl nb none ((bitsL b).map nA), int (p2 : Int), .own 100 g none 0 o.length, int (m : Int), 3, _)) ⟨rfl, by simp⟩ (Nat.succ_pos _) rfl rfl (Nat.le_refl _) ?_ ?_
              · simp (disch := omega) only [wP, wZ, undef, seval, if_pos, if_neg, aStore, frz, AV.flat, ↓reduceIte, ne_eq, reduceCtorEq, ByteArray.size, rfF]
              · simp (disch := omega) only [wP, wZ, undef, seval, if_pos, if_neg, aStore, frz, AV.flat, ↓reduceIte, ne_eq, reduceCtorEq, ByteArray.size, rfF, iR]
                try rfl
    · rw [hbl] at hx
      simp only [BR.bnd] at hx
      subst hx
      have de : decide ((e2 : Int) = 0) = false := decide_eq_false (by omega)
      repeat (first | refine wA ?_ | refine wB ?_ | refine wC rfl ?_ | refine wD rfl ?_ | refine wE ?_ | refine wF (by omega) ?_ | ((first | refine wG ?_ | refine wH ?_ | refine wI ?_ | refine wJ ?_ | refine wK ?_ | refine wL ?_); simp (disch := omega) only [wP, wZ, undef, seval, if_pos, if_neg, aStore, frz, AV.flat, ↓reduceIte, ne_eq, reduceCtorEq, ByteArray.size]))
      refine goC_h [(19, 1), (100, g)] 7000 cn1 (by simp) (by simp) ?_ ?_ ?_
      iterate 2 (case _ => simp (disch := omega) only [wP, wZ, undef, seval, if_pos, if_neg, aStore, frz, AV.flat, ↓reduceIte, ne_eq, reduceCtorEq, ByteArray.size, stI, stR, iR])
      repeat (first | refine wA ?_ | refine wB ?_ | refine wC rfl ?_ | refine wD rfl ?_ | refine wE ?_ | refine wF (by omega) ?_ | ((first | refine wG ?_ | refine wH ?_ | refine wI ?_ | refine wJ ?_ | refine wK ?_ | refine wL ?_); simp (disch := omega) only [wP, wZ, undef, seval, if_pos, if_neg, aStore, frz, AV.flat, ↓reduceIte, ne_eq, reduceCtorEq, ByteArray.size, stO, stR, iR]))
      refine goC_h [(19, 1), (100, g)] 8000 cn2 (by simp) (by simp) ?_ ?_ ?_
      iterate 2 (case _ => simp (disch := omega) only [wP, wZ, undef, seval, if_pos, if_neg, aStore, frz, AV.flat, ↓reduceIte, ne_eq, reduceCtorEq, ByteArray.size, stI, stR, iR])
      simp only [gotR]
      rw [gotG_no he]
      repeat (first | refine wA ?_ | refine wB ?_ | refine wC rfl ?_ | refine wD rfl ?_ | refine wE ?_ | refine wF (by omega) ?_ | ((first | refine wG ?_ | refine wH ?_ | refine wI ?_ | refine wJ ?_ | refine wK ?_ | refine wL ?_); simp (disch := omega) only [wP, wZ, undef, seval, if_pos, if_neg, aStore, frz, AV.flat, ↓reduceIte, ne_eq, reduceCtorEq, ByteArray.size, stO, stR, iR, de]))
  · obtain ⟨rfl, he⟩ := hI
    have de : decide ((e : Int) = 0) = false := decide_eq_false (by omega)
    simp only [gotR]
    rw [gotG_no he]
    unfold rfF
    repeat (first | refine wA ?_ | refine wB ?_ | refine wC rfl ?_ | refine wD rfl ?_ | refine wE ?_ | refine wF (by omega) ?_ | ((first | refine wG ?_ | refine wH ?_ | refine wI ?_ | refine wJ ?_ | refine wK ?_ | refine wL ?_); simp (disch := omega) only [wP, wZ, undef, seval, if_pos, if_neg, aStore, frz, AV.flat, ↓reduceIte, ne_eq, reduceCtorEq, ByteArray.size, jkR, iR, de]))
end Go.Proofs.YtokdmakljdhjiaaDoor.Aw
