/- Contracts: times, made, fixed of drayageref04. -/
import Derived.Test.YtokdmakljdhjiaaDoorPkF
import Derived.Test.YtokdmakljdhjiaaDoorPkG
namespace Go.Proofs.YtokdmakljdhjiaaDoor.Aw
open Go
set_option linter.unusedSimpArgs false
set_option linter.unusedVariables false

set_option maxRecDepth 100000 in
theorem rf_times_h [Tabs Tryd.prog] (x n : Nat) (hn : n ≤ 100000) : HCon Tryd.prog n_drayageref04_times [int (x : Int), int (n : Int)] [] (.own 5 (n + 3) none 0 n) [(5, n + 3, .row (nl0 n) ((List.replicate n x).map nA))] (n + 4) := by
  refine HCon.of' mix Tryd.func18 rfl Tryd.ntmps18 e_drayageref04_times r_drayageref04_times (by simp) (by simp [AV.gl, AV.gl.glL, int]) (by simp) ?_
  unfold s_drayageref04_times
  repeat (first | refine wA ?_ | refine wB ?_ | refine wC rfl ?_ | refine wD rfl ?_ | refine wE ?_ | refine wF (by omega) ?_ | ((first | refine wG ?_ | refine wH ?_ | refine wI ?_ | refine wJ ?_ | refine wK ?_ | refine wL ?_); simp (disch := omega) only [wP, wZ, undef, seval, if_pos, if_neg, aStore, frz, AV.flat, ↓reduceIte, ne_eq, reduceCtorEq, ByteArray.size]))
  refine SWp.adopt 5 none (by simp (disch := omega) only [wP, wZ, undef, seval, if_pos, if_neg, aStore, frz, AV.flat, ↓reduceIte, ne_eq, reduceCtorEq, ByteArray.size]) ?_
  refine SWp.loop (α := Nat × Nat) (fun z => mk 17 (2 + z.1) [(0, int (x : Int)), (1, int (n : Int)), (5, .own 5 z.2 none 0 z.1), (6, int (z.1 : Int))] [(5, z.2, .row (nl0 z.1) ((List.replicate z.1 x).map nA))])
    (fun z => z.1 ≤ n) (fun z => n - z.1) (0, 1) (Nat.zero_le _) (le_mk rfl ?_ ?_ ?_) ?_
  · exact Nat.le_refl _
  iterate 2 (case _ => simp (disch := omega) only [wP, wZ, undef, seval, if_pos, if_neg, aStore, frz, AV.flat, ↓reduceIte, ne_eq, reduceCtorEq, ByteArray.size, nl0_zero])
  rintro ⟨k, g⟩ hk -
  simp only at hk
  have hr : List.replicate (k + 1) x = List.replicate k x ++ [x] := List.replicate_succ'
  have hl : (List.replicate k x).length = k := List.length_replicate
  obtain ⟨X, hX⟩ : ∃ X, X = List.replicate k x := ⟨_, rfl⟩
  rw [← hX] at hr hl ⊢
  repeat (first | refine wA ?_ | refine wB ?_ | refine wC rfl ?_ | refine wD rfl ?_ | refine wE ?_ | refine wF (by omega) ?_ | ((first | refine wG ?_ | refine wH ?_ | refine wI ?_ | refine wJ ?_ | refine wK ?_ | refine wL ?_); simp (disch := omega) only [wP, wZ, undef, seval, if_pos, if_neg, aStore, frz, AV.flat, ↓reduceIte, ne_eq, reduceCtorEq, ByteArray.size]))
  refine SWp.cond rfl (fun h => ?_) (fun h => ?_)
  · simp only [decide_eq_true_eq] at h
    repeat (first | refine wA ?_ | refine wB ?_ | refine wC rfl ?_ | refine wD rfl ?_ | refine wE ?_ | refine wF (by omega) ?_ | ((first | refine wG ?_ | refine wH ?_ | refine wI ?_ | refine wJ ?_ | refine wK ?_ | refine wL ?_); simp (disch := omega) only [wP, wZ, undef, seval, if_pos, if_neg, aStore, frz, AV.flat, ↓reduceIte, ne_eq, reduceCtorEq, ByteArray.size, hl]))
    refine At.of (k + 1, 2 + k) (by simp only; omega) (by simp only; omega) rfl rfl ?_ ?_ ?_
    · simp only; omega
    iterate 2 (case _ => simp (disch := omega) only [wP, wZ, undef, seval, if_pos, if_neg, aStore, frz, AV.flat, ↓reduceIte, ne_eq, reduceCtorEq, ByteArray.size, hr, nl0_succ, nA])
  · simp only [decide_eq_false_iff_not] at h
    obtain rfl : k = n := by omega
    refine SWp.le (le_mk (N := 17) (gc := k + 3) (l := [(5, .own 5 g none 0 k)]) (h := [(5, g, .row (nl0 k) (X.map nA))]) rfl ?_ ?_ ?_) ?_
    · show 2 + k ≤ k + 3; omega
    iterate 2 (case _ => simp (disch := omega) only [wP, wZ, undef, seval, if_pos, if_neg, aStore, frz, AV.flat, ↓reduceIte, ne_eq, reduceCtorEq, ByteArray.size])
    refine SWp.renew 5 g (o := .row (nl0 k) (X.map nA)) (by simp (disch := omega) only [wP, wZ, undef, seval, if_pos, if_neg, aStore, frz, AV.flat, ↓reduceIte, ne_eq, reduceCtorEq, ByteArray.size]) ?_
    refine SWp.le (le_mk (N := 17) (gc := k + 4) (l := [(5, .own 5 (k + 3) none 0 k)]) (h := [(5, k + 3, .row (nl0 k) (X.map nA))]) rfl ?_ ?_ ?_) ?_
    · exact Nat.le_refl _
    iterate 2 (case _ => simp (disch := omega) only [wP, wZ, undef, seval, if_pos, if_neg, aStore, frz, AV.flat, ↓reduceIte, ne_eq, reduceCtorEq, ByteArray.size, rgn_eq, rgH_at, iR])
    repeat (first | refine wA ?_ | refine wB ?_ | refine wC rfl ?_ | refine wD rfl ?_ | refine wE ?_ | refine wF (by omega) ?_ | ((first | refine wG ?_ | refine wH ?_ | refine wI ?_ | refine wJ ?_ | refine wK ?_ | refine wL ?_); simp (disch := omega) only [wP, wZ, undef, seval, if_pos, if_neg, aStore, frz, AV.flat, ↓reduceIte, ne_eq, reduceCtorEq, ByteArray.size, ← hX]))

theorem ref_Codes_n [Tabs Tryd.prog] (nl : Bool) (l : List Nat) (h15 : ∀ x ∈ l, x ≤ 15) (hl : l.length ≤ 320) (hK : kraft l ≤ 32768) : Con Tryd.prog n_drayageref03_Codes [.sl nl none (l.map nA)] (.tup [.sl l.isEmpty none ((codesL l).map nA), int 0]) := by
  have h := ref_Codes_c nl (l.map Int.ofNat) (by rw [chkN h15 hl, if_neg (by omega)]) l toNat_ofNat.symm
  rw [← nA_zA] at h
  exact h
theorem ref_Full_n [Tabs Tryd.prog] (nl : Bool) (l : List Nat) (h15 : ∀ x ∈ l, x ≤ 15) (hl : l.length ≤ 1000) : Con Tryd.prog n_drayageref03_Full [.sl nl none (l.map nA)] (boo (fulN l)) := by
  have h := ref_Full_c nl (l.map Int.ofNat) (by rw [List.length_map]; exact hl)
  rw [← nA_zA] at h
  have e : fullB (l.map Int.ofNat) = fulN l := by
    unfold fullB fulN
    rw [toNat_ofNat]
    by_cases c : l.length ≤ 320
    · rw [chkN h15 c]
      by_cases c2 : kraft l = 32768
      · rw [if_neg (by omega), decide_eq_true c2, decide_eq_true (show l.length ≤ 320 ∧ kraft l = 32768 from ⟨c, c2⟩)]; rfl
      · rw [decide_eq_false c2, Bool.and_false, decide_eq_false (fun h => c2 h.2)]
    · rw [decide_eq_false (fun h : l.length ≤ 320 ∧ _ => c h.1), decide_eq_false, Bool.false_and]
      unfold chk
      rw [List.length_map, if_pos (by omega)]
      omega
  rw [e] at h
  exact h

theorem rf_made_c [Tabs Tryd.prog] (nl : Bool) (l : List Nat) (h15 : ∀ x ∈ l, x ≤ 15) (hl : l.length ≤ 320) (hK : kraft l ≤ 32768) : Con Tryd.prog n_drayageref04_made [.sl nl none (l.map nA)] (cdA nl l.isEmpty l) := by
  refine Con.of' mix Tryd.func17 rfl Tryd.ntmps17 e_drayageref04_made r_drayageref04_made (by simp) (by simp only [AV.free, AV.free.freeL, free_nA, Bool.and_self]) free_cdA ?_
  unfold s_drayageref04_made
  have hC := ref_Codes_n nl l h15 hl hK
  repeat (first | refine wA ?_ | refine wB ?_ | refine wC rfl ?_ | refine wD rfl ?_ | refine wE ?_ | refine wF (by omega) ?_ | ((first | refine wG ?_ | refine wH ?_ | refine wI ?_ | refine wJ ?_ | refine wK ?_ | refine wL ?_); simp (disch := omega) only [wP, wZ, undef, seval, if_pos, if_neg, aStore, frz, AV.flat, ↓reduceIte, ne_eq, reduceCtorEq, ByteArray.size]))
  refine goC_p _ (.inl ⟨by simp only [AV.free, AV.free.freeL, free_nA, Bool.and_self], hC⟩) ?_
  repeat (first | refine wA ?_ | refine wB ?_ | refine wC rfl ?_ | refine wD rfl ?_ | refine wE ?_ | refine wF (by omega) ?_ | ((first | refine wG ?_ | refine wH ?_ | refine wI ?_ | refine wJ ?_ | refine wK ?_ | refine wL ?_); simp (disch := omega) only [wP, wZ, undef, seval, if_pos, if_neg, aStore, frz, AV.flat, ↓reduceIte, ne_eq, reduceCtorEq, ByteArray.size, cdA, iR]))

set_option maxRecDepth 100000 in
theorem rf_fixed_c [Tabs Tryd.prog] : Con Tryd.prog n_drayageref04_fixed [] (cdA false false fixL) := by
  refine Con.of' mix Tryd.func16 rfl Tryd.ntmps16 e_drayageref04_fixed r_drayageref04_fixed (by simp) rfl free_cdA ?_
  unfold s_drayageref04_fixed
  have p1 := rf_times_h 8 144 (by omega)
  have p2 := rf_times_h 9 112 (by omega)
  have p3 := rf_times_h 7 24 (by omega)
  have p4 := rf_times_h 8 8 (by omega)
  have pm := rf_made_c false fixL fixL_facts.1 (by rw [fixL_facts.2.1]; omega) (by rw [fixL_facts.2.2]; omega)
  have hL : List.replicate 144 8 ++ (List.replicate 112 9 ++ (List.replicate 24 7 ++ List.replicate 8 8)) = fixL := rfl
  have hem : fixL.isEmpty = false := rfl
  rw [hem] at pm
  obtain ⟨A, hA⟩ : ∃ A, A = List.replicate 144 8 := ⟨_, rfl⟩
  obtain ⟨B, hB⟩ : ∃ B, B = List.replicate 112 9 := ⟨_, rfl⟩
  obtain ⟨C, hC⟩ : ∃ C, C = List.replicate 24 7 := ⟨_, rfl⟩
  obtain ⟨D, hD⟩ : ∃ D, D = List.replicate 8 8 := ⟨_, rfl⟩
  have lA : A.length = 144 := by rw [hA]; rfl
  have lB : B.length = 112 := by rw [hB]; rfl
  have lC : C.length = 24 := by rw [hC]; rfl
  have lD : D.length = 8 := by rw [hD]; rfl
  rw [← hA] at p1 hL
  rw [← hB] at p2 hL
  rw [← hC] at p3 hL
  rw [← hD] at p4 hL
  have hAB : A.map nA ++ B.map nA = (A ++ B).map nA := by rw [List.map_append]
  repeat (first | refine wA ?_ | refine wB ?_ | refine wC rfl ?_ | refine wD rfl ?_ | refine wE ?_ | refine wF (by omega) ?_ | ((first | refine wG ?_ | refine wH ?_ | refine wI ?_ | refine wJ ?_ | refine wK ?_ | refine wL ?_); simp (disch := omega) only [wP, wZ, undef, seval, if_pos, if_neg, aStore, frz, AV.flat, ↓reduceIte, ne_eq, reduceCtorEq, ByteArray.size]))
  refine goC_h [] 1000 p1 (by simp) (by simp) ?_ ?_ ?_
  iterate 2 (case _ => simp (disch := omega) only [wP, wZ, undef, seval, if_pos, if_neg, aStore, frz, AV.flat, ↓reduceIte, ne_eq, reduceCtorEq, ByteArray.size])
  repeat (first | refine wA ?_ | refine wB ?_ | refine wC rfl ?_ | refine wD rfl ?_ | refine wE ?_ | refine wF (by omega) ?_ | ((first | refine wG ?_ | refine wH ?_ | refine wI ?_ | refine wJ ?_ | refine wK ?_ | refine wL ?_); simp (disch := omega) only [wP, wZ, undef, seval, if_pos, if_neg, aStore, frz, AV.flat, ↓reduceIte, ne_eq, reduceCtorEq, ByteArray.size, lA, nl0_succ]))
  refine goC_h [] 2000 p2 (by simp) (by simp) ?_ ?_ ?_
  iterate 2 (case _ => simp (disch := omega) only [wP, wZ, undef, seval, if_pos, if_neg, aStore, frz, AV.flat, ↓reduceIte, ne_eq, reduceCtorEq, ByteArray.size])
  repeat (first | refine wA ?_ | refine wB ?_ | refine wC rfl ?_ | refine wD rfl ?_ | refine wE ?_ | refine wF (by omega) ?_ | ((first | refine wG ?_ | refine wH ?_ | refine wI ?_ | refine wJ ?_ | refine wK ?_ | refine wL ?_); simp (disch := omega) only [wP, wZ, undef, seval, if_pos, if_neg, aStore, frz, AV.flat, ↓reduceIte, ne_eq, reduceCtorEq, ByteArray.size, lA, lB, iR]))
  refine goC_h [] 3000 p3 (by simp) (by simp) ?_ ?_ ?_
  iterate 2 (case _ => simp (disch := omega) only [wP, wZ, undef, seval, if_pos, if_neg, aStore, frz, AV.flat, ↓reduceIte, ne_eq, reduceCtorEq, ByteArray.size])
  repeat (first | refine wA ?_ | refine wB ?_ | refine wC rfl ?_ | refine wD rfl ?_ | refine wE ?_ | refine wF (by omega) ?_ | ((first | refine wG ?_ | refine wH ?_ | refine wI ?_ | refine wJ ?_ | refine wK ?_ | refine wL ?_); simp (disch := omega) only [wP, wZ, undef, seval, if_pos, if_neg, aStore, frz, AV.flat, ↓reduceIte, ne_eq, reduceCtorEq, ByteArray.size, lA, lB, lC, iR]))
  refine goC_h [] 4000 p4 (by simp) (by simp) ?_ ?_ ?_
  iterate 2 (case _ => simp (disch := omega) only [wP, wZ, undef, seval, if_pos, if_neg, aStore, frz, AV.flat, ↓reduceIte, ne_eq, reduceCtorEq, ByteArray.size])
  repeat (first | refine wA ?_ | refine wB ?_ | refine wC rfl ?_ | refine wD rfl ?_ | refine wE ?_ | refine wF (by omega) ?_ | ((first | refine wG ?_ | refine wH ?_ | refine wI ?_ | refine wJ ?_ | refine wK ?_ | refine wL ?_); simp (disch := omega) only [wP, wZ, undef, seval, if_pos, if_neg, aStore, frz, AV.flat, ↓reduceIte, ne_eq, reduceCtorEq, ByteArray.size, lA, lB, lC, lD, iR]))
  have hcat : A.map nA ++ (B.map nA ++ (C.map nA ++ D.map nA)) = fixL.map nA := by rw [← hL]; simp only [List.map_append]
  have hfr : AV.free.freeL (A.map nA ++ (B.map nA ++ (C.map nA ++ D.map nA))) = true := by rw [hcat]; exact free_nA
  have htk : (fixL.map nA).take 288 = fixL.map nA := List.take_of_length_le (by rw [List.length_map, fixL_facts.2.1]; exact Nat.le_refl _)
  have hfl : fixL.length = 288 := fixL_facts.2.1
  refine goC_f 1005 307 (nl := false) (cells := A.map nA ++ (B.map nA ++ (C.map nA ++ D.map nA))) [.sl false none (fixL.map nA)] _ (by simp (disch := omega) only [wP, wZ, undef, seval, if_pos, if_neg, aStore, frz, AV.flat, ↓reduceIte, ne_eq, reduceCtorEq, ByteArray.size]) hfr ?_ (by simp (disch := omega) only [wP, wZ, undef, seval, if_pos, if_neg, aStore, frz, AV.flat, ↓reduceIte, ne_eq, reduceCtorEq, ByteArray.size, free_nA]) pm ?_
  · rw [hcat]
    simp (disch := omega) only [wP, wZ, undef, seval, if_pos, if_neg, aStore, frz, AV.flat, ↓reduceIte, ne_eq, reduceCtorEq, ByteArray.size, fR, htk, hfl]
  repeat (first | refine wA ?_ | refine wB ?_ | refine wC rfl ?_ | refine wD rfl ?_ | refine wE ?_ | refine wF (by omega) ?_ | ((first | refine wG ?_ | refine wH ?_ | refine wI ?_ | refine wJ ?_ | refine wK ?_ | refine wL ?_); simp (disch := omega) only [wP, wZ, undef, seval, if_pos, if_neg, aStore, frz, AV.flat, ↓reduceIte, ne_eq, reduceCtorEq, ByteArray.size, cdA, iR]))
end Go.Proofs.YtokdmakljdhjiaaDoor.Aw
