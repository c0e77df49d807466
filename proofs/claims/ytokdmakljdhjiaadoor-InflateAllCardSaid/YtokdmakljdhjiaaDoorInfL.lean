/- Contract: inflate.Inflate. -/
import Derived.Test.YtokdmakljdhjiaaDoorInfK
namespace Go.Proofs.YtokdmakljdhjiaaDoor.Aw
open Go
set_option linter.unusedSimpArgs false
set_option linter.unusedVariables false

theorem rho_h2g {p q r : Nat × Nat} {hs : List (Nat × Nat)} {D c g : Nat} (h : g ≠ 0) : rho (p :: q :: r :: hs) D c 1002 g = (r.1, c + g) := by simp [rho, handed, h]
theorem symT_le {b : List UInt8} {l d : List Nat} {most : Nat} : ∀ {f : Nat} {out o : List UInt8} {i j : Nat}, out.length ≤ most → (symT l d most f out).run (bitsL b) i = .ok o j → o.length ≤ most := by
  intro f
  induction f with
  | zero => intro out o i j _ h; simp [symT, BT.run] at h
  | succ f ih =>
    intro out o i j ho h
    rw [symT, run_bnd] at h
    cases h1 : (nxtT l 15 0 0).run (bitsL b) i with
    | no e => rw [h1] at h; cases h
    | ok s k =>
      rw [h1] at h
      simp only [BR.bnd] at h
      by_cases c : s < 256
      · rw [if_pos c] at h
        by_cases c2 : most ≤ out.length
        · rw [if_pos c2] at h; simp [BT.run] at h
        · rw [if_neg c2] at h
          exact ih (by rw [List.length_append, List.length_singleton]; omega) h
      · rw [if_neg c] at h
        by_cases c2 : s = 256
        · rw [if_pos c2] at h
          simp only [BT.run, BR.ok.injEq] at h
          rw [← h.1]; exact ho
        · rw [if_neg c2, run_bnd] at h
          cases h2 : (runT most d out (s - 257)).run (bitsL b) k with
          | no e => rw [h2] at h; cases h
          | ok o2 k2 =>
            rw [h2] at h
            exact ih (runT_le h2) h
theorem bytT_len {b : List UInt8} {n : Nat} : ∀ {bs : List UInt8} {i j : Nat}, (bytT n).run (bitsL b) i = .ok bs j → bs.length = n := by
  induction n with
  | zero => intro bs i j h; simp only [bytT, BT.run, BR.ok.injEq] at h; rw [← h.1]; rfl
  | succ n ih =>
    intro bs i j h
    rw [bytT, run_bnd] at h
    cases h1 : (numT 8).run (bitsL b) i with
    | no e => rw [h1] at h; cases h
    | ok x k =>
      rw [h1] at h
      simp only [BR.bnd, run_bnd] at h
      cases h2 : (bytT n).run (bitsL b) k with
      | no e => rw [h2] at h; cases h
      | ok r k2 =>
        have := ih h2
        rw [h2] at h
        simp only [BR.bnd, BT.run, BR.ok.injEq] at h
        rw [← h.1, List.length_cons, this]
theorem bodT_le {b : List UInt8} {most F h : Nat} {out o : List UInt8} {i j : Nat} (ho : out.length ≤ most) (q : (bodT most F out h).run (bitsL b) i = .ok o j) : o.length ≤ most := by
  unfold bodT at q
  split at q
  · simp only [stoT, BT.run, run_bnd] at q
    cases h1 : (numT ((i + 7) / 8 * 8 - i)).run (bitsL b) i with
    | no e => rw [h1] at q; cases q
    | ok s k =>
      rw [h1] at q
      simp only [BR.bnd, run_bnd] at q
      cases h2 : (numT 16).run (bitsL b) k with
      | no e => rw [h2] at q; cases q
      | ok n k2 =>
        rw [h2] at q
        simp only [BR.bnd, run_bnd] at q
        cases h3 : (numT 16).run (bitsL b) k2 with
        | no e => rw [h3] at q; cases q
        | ok m k3 =>
          rw [h3] at q
          simp only [BR.bnd] at q
          split at q
          · simp [BT.run] at q
          · rw [run_bnd] at q
            cases h4 : (bytT n).run (bitsL b) k3 with
            | no e => rw [h4] at q; cases q
            | ok bs k4 =>
              have hl := bytT_len h4
              rw [h4] at q
              simp only [BR.bnd] at q
              split at q
              · simp [BT.run] at q
              · simp only [BT.run, BR.ok.injEq] at q
                rw [← q.1, List.length_append]; omega
  · split at q
    · exact symT_le ho q
    · split at q
      · rw [run_bnd] at q
        cases h1 : tolT.run (bitsL b) i with
        | no e => rw [h1] at q; cases q
        | ok p k => rw [h1] at q; exact symT_le ho q
      · simp [BT.run] at q
theorem blkT_ok {b : List UInt8} {most F i j : Nat} {out : List UInt8} {p : Bool × List UInt8} (hi : i ≤ 8 * b.length) (ho : out.length ≤ most) (h : (blkT most F out).run (bitsL b) i = .ok p j) : i < j ∧ j ≤ 8 * b.length ∧ p.2.length ≤ most := by
  have hj := (run_ok h).2 (by rw [length_bitsL]; exact hi)
  rw [length_bitsL] at hj
  rw [blkT, run_bnd, run_num hi] at h
  split at h
  · simp only [BR.bnd] at h
    rw [run_bnd] at h
    cases h1 : (bodT most F out (numAt b i 3 / 2)).run (bitsL b) (i + 3) with
    | no e => rw [h1] at h; cases h
    | ok o k =>
      have h2 := (run_ok h1).1
      rw [h1] at h
      simp only [BR.bnd, BT.run, BR.ok.injEq] at h
      obtain ⟨rfl, rfl⟩ := h
      exact ⟨by omega, hj, bodT_le ho h1⟩
  · cases h

/-- The answer of Inflate. -/
def infA (F : Nat) (b : List UInt8) (most : Int) : List UInt8 × Nat × Nat := if most < 0 ∨ 16777216 < most then ([], 0, 1) else infR F b most.toNat
def gotA (r : List UInt8 × Nat × Nat) : AV := if r.2.2 = 0 then .tup [.sl (nl0 r.1.length) none (r.1.map u8), int (r.2.1 : Int), int 0] else .tup [.sc (.slice none 0 0), int 0, int (r.2.2 : Int)]
theorem free_gotA {r : List UInt8 × Nat × Nat} : (gotA r).free = true := by
  unfold gotA
  by_cases c : r.2.2 = 0
  · rw [if_pos c]; simp only [AV.free, AV.free.freeL, free_u8, int, Bool.and_self]
  · rw [if_neg c]; rfl

set_option maxHeartbeats 2000000 in
set_option maxRecDepth 100000 in
theorem inf_Inflate_c [Tabs Tryd.prog] (ht : Tabs.tab Tryd.prog 0 = some (tells.map nA)) (nl : Bool) (b : List UInt8) (hb : b.length ≤ 1000000) (hnl : nl = true → b = []) (most : Int) (F : Nat) (hF : 8 * b.length < F) :
    Con Tryd.prog n_inflate_Inflate [.sl nl none (b.map u8), int most] (gotA (infA F b most)) := by
  refine Con.of' mix Tryd.func7 rfl Tryd.ntmps7 e_inflate_Inflate r_inflate_Inflate (by simp) (by simp only [AV.free, AV.free.freeL, free_u8, int, Bool.and_self]) free_gotA ?_
  unfold s_inflate_Inflate
  by_cases c1 : most < 0
  · have d1 := decide_eq_true c1
    rw [show gotA (infA F b most) = .tup [.sc (.slice none 0 0), int 0, int 1] by rw [infA, if_pos (.inl c1)]; rfl]
    repeat (first | refine wA ?_ | refine wB ?_ | refine wC rfl ?_ | refine wD rfl ?_ | refine wE ?_ | refine wF (by omega) ?_ | ((first | refine wG ?_ | refine wH ?_ | refine wI ?_ | refine wJ ?_ | refine wK ?_ | refine wL ?_); simp (disch := omega) only [wP, wZ, undef, seval, if_pos, if_neg, aStore, frz, AV.flat, ↓reduceIte, ne_eq, reduceCtorEq, ByteArray.size, d1]))
  have d1 := decide_eq_false c1
  by_cases c2 : 16777216 < most
  · have d2 := decide_eq_true c2
    rw [show gotA (infA F b most) = .tup [.sc (.slice none 0 0), int 0, int 1] by rw [infA, if_pos (.inr c2)]; rfl]
    repeat (first | refine wA ?_ | refine wB ?_ | refine wC rfl ?_ | refine wD rfl ?_ | refine wE ?_ | refine wF (by omega) ?_ | ((first | refine wG ?_ | refine wH ?_ | refine wI ?_ | refine wJ ?_ | refine wK ?_ | refine wL ?_); simp (disch := omega) only [wP, wZ, undef, seval, if_pos, if_neg, aStore, frz, AV.flat, ↓reduceIte, ne_eq, reduceCtorEq, ByteArray.size, d1, d2]))
  have d2 := decide_eq_false c2
  rw [show infA F b most = infR F b most.toNat by rw [infA, if_neg (by omega)]]
  obtain ⟨m, hm⟩ : ∃ m : Nat, most = (m : Int) := ⟨most.toNat, by omega⟩
  subst hm
  rw [Int.toNat_natCast]
  have hm : m ≤ 16777216 := by omega
  obtain ⟨r, hr⟩ : ∃ r, (infT m F F []).run (bitsL b) 0 = r := ⟨_, rfl⟩
  have hse := fun e (q : (infT m F F []).run (bitsL b) 0 = .no e) => safe_run (safe_inf _ _) q
  rw [hr] at hse
  rw [infR, hr]
  repeat (first | refine wA ?_ | refine wB ?_ | refine wC rfl ?_ | refine wD rfl ?_ | refine wE ?_ | refine wF (by omega) ?_ | ((first | refine wG ?_ | refine wH ?_ | refine wI ?_ | refine wJ ?_ | refine wK ?_ | refine wL ?_); simp (disch := omega) only [wP, wZ, undef, seval, if_pos, if_neg, aStore, frz, AV.flat, ↓reduceIte, ne_eq, reduceCtorEq, ByteArray.size, d1, d2]))
  refine goC_h [] 2000 (huff_NewReader_h nl b hb hnl) (by simp) (by simp) ?_ ?_ ?_
  iterate 2 (case _ => simp (disch := omega) only [wP, wZ, undef, seval, if_pos, if_neg, aStore, frz, AV.flat, ↓reduceIte, ne_eq, reduceCtorEq, ByteArray.size])
  iterate 1 (first | refine wA ?_ | refine wB ?_ | refine wC rfl ?_ | refine wD rfl ?_ | refine wE ?_ | refine wF (by omega) ?_ | ((first | refine wG ?_ | refine wH ?_ | refine wI ?_ | refine wJ ?_ | refine wK ?_ | refine wL ?_); simp (disch := omega) only [wP, wZ, undef, seval, if_pos, if_neg, aStore, frz, AV.flat, ↓reduceIte, ne_eq, reduceCtorEq, ByteArray.size, rdR]))
  refine SWp.adoptC 19 2 1 100 none (nl := false) (cells := [.op 2006 1 0, .sc (.slice none 0 0), int (m : Int), .sc (.pointer none)]) (by simp (disch := omega) only [wP, wZ, undef, seval, if_pos, if_neg, aStore, frz, AV.flat, ↓reduceIte, ne_eq, reduceCtorEq, ByteArray.size]) rfl (by decide) ?_
  repeat (first | refine wA ?_ | refine wB ?_ | refine wC rfl ?_ | refine wD rfl ?_ | refine wE ?_ | refine wF (by omega) ?_ | ((first | refine wG ?_ | refine wH ?_ | refine wI ?_ | refine wJ ?_ | refine wK ?_ | refine wL ?_); simp (disch := omega) only [wP, wZ, undef, seval, if_pos, if_neg, aStore, frz, AV.flat, ↓reduceIte, ne_eq, reduceCtorEq, ByteArray.size, List.set_cons_zero, List.set_cons_succ]))
  refine SWp.loop (α := Nat × List UInt8 × Nat × Bool × Nat × Nat × Bool) (fun x => mk 54 x.2.2.2.2.2.1 [(7, .op 19 2 0), (8, boo x.2.2.2.2.2.2)] [(2006, 1, .row false (rdR nl b x.2.2.1)), (19, 2, .row false [.op 2006 1 0, .own 100 x.2.2.2.2.1 none 0 x.2.1.length, int (m : Int), fxA x.2.2.2.1]), (100, x.2.2.2.2.1, .row (nl0 x.2.1.length) (x.2.1.map u8))])
    (fun x => (if x.2.2.2.2.2.2 = true then BR.ok x.2.1 x.2.2.1 else (infT m F x.1 x.2.1).run (bitsL b) x.2.2.1) = r ∧ x.2.2.1 ≤ 8 * b.length ∧ 8 * b.length - x.2.2.1 < x.1 ∧ x.2.1.length ≤ m) (fun x => x.1 + (if x.2.2.2.2.2.2 = true then 0 else 1)) (F, [], 0, false, 3, 4, false) ⟨hr, Nat.zero_le _, by simp only; omega, Nat.zero_le _⟩ (le_mk rfl ?_ ?_ ?_) ?_
  · exact Nat.le_refl _
  iterate 2 (case _ => simp (disch := omega) only [wP, wZ, undef, seval, if_pos, if_neg, aStore, frz, AV.flat, ↓reduceIte, ne_eq, reduceCtorEq, ByteArray.size, rdR, fxA_false, nl0_zero])
  rintro ⟨f, o, i, t, g, c, last⟩ ⟨hx, hi, hf, ho⟩ -
  simp only at hx hi hf ho
  cases last with
  | true =>
    simp only [if_true] at hx
    subst hx
    obtain ⟨w, hw⟩ : ∃ w, w = i + 7 := ⟨_, rfl⟩
    have ew : (i : Int) + 8 - 1 = (w : Int) := by omega
    have hg : gotA (o, (i + 7) / 8, 0) = .tup [.sl (nl0 o.length) none (o.map u8), int (((i + 7) / 8 : Nat) : Int), int 0] := rfl
    simp only [gotR]
    rw [hg, ← hw]
    repeat (first | refine wA ?_ | refine wB ?_ | refine wC rfl ?_ | refine wD rfl ?_ | refine wE ?_ | refine wF (by omega) ?_ | ((first | refine wG ?_ | refine wH ?_ | refine wI ?_ | refine wJ ?_ | refine wK ?_ | refine wL ?_); simp (disch := omega) only [wP, wZ, undef, seval, if_pos, if_neg, aStore, frz, AV.flat, ↓reduceIte, ne_eq, reduceCtorEq, ByteArray.size]))
    refine goC_h [(2006, 1)] 3000 (huff_At_h nl b i) (by simp) (by simp) ?_ ?_ ?_
    iterate 2 (case _ => simp (disch := omega) only [wP, wZ, undef, seval, if_pos, if_neg, aStore, frz, AV.flat, ↓reduceIte, ne_eq, reduceCtorEq, ByteArray.size, rdR])
    repeat (first | refine wA ?_ | refine wB ?_ | refine wC rfl ?_ | refine wD rfl ?_ | refine wE ?_ | refine wF (by omega) ?_ | ((first | refine wG ?_ | refine wH ?_ | refine wI ?_ | refine wJ ?_ | refine wK ?_ | refine wL ?_); simp (disch := omega) only [wP, wZ, undef, seval, if_pos, if_neg, aStore, frz, AV.flat, ↓reduceIte, ne_eq, reduceCtorEq, ByteArray.size, rdR, ew]))
    all_goals trace_state
  | false =>
    rw [if_neg (by simp)] at hx
    obtain ⟨f, rfl⟩ : ∃ f', f = f' + 1 := ⟨f - 1, by omega⟩
    rw [infT, run_bnd] at hx
    have hB := inf_block_h ht t m hm nl b hb hnl i hi o ho F hF _ rfl
    have hBi := fun p j (q : (blkT m F o).run (bitsL b) i = .ok p j) => blkT_ok hi ho q
    have hBs := fun e (q : (blkT m F o).run (bitsL b) i = .no e) => safe_run safe_blk q
    obtain ⟨r1, hr1⟩ : ∃ r1, r1 = (blkT m F o).run (bitsL b) i := ⟨_, rfl⟩
    rw [← hr1] at hB hBi hBs hx
    obtain ⟨t2, ht2⟩ : ∃ t2, t2 = fxN t b i := ⟨_, rfl⟩
    obtain ⟨b2, hb2⟩ : ∃ b2, b2 = bitB b i := ⟨_, rfl⟩
    repeat (first | refine wA ?_ | refine wB ?_ | refine wC rfl ?_ | refine wD rfl ?_ | refine wE ?_ | refine wF (by omega) ?_ | ((first | refine wG ?_ | refine wH ?_ | refine wI ?_ | refine wJ ?_ | refine wK ?_ | refine wL ?_); simp (disch := omega) only [wP, wZ, undef, seval, if_pos, if_neg, aStore, frz, AV.flat, ↓reduceIte, ne_eq, reduceCtorEq, ByteArray.size]))
    refine goC_h [(19, 2), (2006, 1), (100, g)] 3000 hB (by simp) (by simp) ?_ ?_ ?_
    iterate 2 (case _ => simp (disch := omega) only [wP, wZ, undef, seval, if_pos, if_neg, aStore, frz, AV.flat, ↓reduceIte, ne_eq, reduceCtorEq, ByteArray.size, unI, unR, rdR, ren_fxA])
    cases r1 with
    | no e =>
      simp only [BR.bnd] at hx
      subst hx
      have he := hBs e rfl
      have de : decide ((e : Int) = 0) = false := decide_eq_false (by omega)
      have hg : gotA ([], 0, e) = .tup [.sc (.slice none 0 0), int 0, int (e : Int)] := by rw [gotA, if_neg (by simp only; omega)]
      simp only [gotR]
      rw [hg]
      repeat (first | refine wA ?_ | refine wB ?_ | refine wC rfl ?_ | refine wD rfl ?_ | refine wE ?_ | refine wF (by omega) ?_ | ((first | refine wG ?_ | refine wH ?_ | refine wI ?_ | refine wJ ?_ | refine wK ?_ | refine wL ?_); simp (disch := omega) only [wP, wZ, undef, seval, if_pos, if_neg, aStore, frz, AV.flat, ↓reduceIte, ne_eq, reduceCtorEq, ByteArray.size, ansB, houB, ← hb2, de]))
      all_goals trace_state
    | ok p j =>
      obtain ⟨hij, hj, hp⟩ := hBi p j rfl
      have hKB : KB F ≠ 0 := by simp only [KB]; omega
      simp only [BR.bnd] at hx
      repeat (first | refine wA ?_ | refine wB ?_ | refine wC rfl ?_ | refine wD rfl ?_ | refine wE ?_ | refine wF (by omega) ?_ | ((first | refine wG ?_ | refine wH ?_ | refine wI ?_ | refine wJ ?_ | refine wK ?_ | refine wL ?_); simp (disch := omega) only [wP, wZ, undef, seval, if_pos, if_neg, aStore, frz, AV.flat, ↓reduceIte, ne_eq, reduceCtorEq, ByteArray.size, ansB, houB, unO, unR, rdR, ren_fxA, ← ht2, rho_h2g]))
      refine At.of (f, p.2, j, t2, c + KB F, c + (KB F + 1), p.1) ⟨?_, hj, by simp only; omega, hp⟩ ?_ rfl rfl (Nat.le_refl _) ?_ ?_
      · simp only
        rw [← hx]
        cases h1 : p.1 <;> simp [BT.run]
      · simp only
        cases p.1 with
        | true => show f + 0 < f + 1 + 1; omega
        | false => show f + 1 < f + 1 + 1; omega
      iterate 2 (case _ => simp (disch := omega) only [wP, wZ, undef, seval, if_pos, if_neg, aStore, frz, AV.flat, ↓reduceIte, ne_eq, reduceCtorEq, ByteArray.size, rdR])
end Go.Proofs.YtokdmakljdhjiaaDoor.Aw
