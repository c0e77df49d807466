/- Parts of the proof of DeflateForms. -/
import Derived.Test.YtbmppmdklappiaaDoorQDeflateFormsBE
import Derived.Test.YtbmppmdklappiaaDoorQDeflateFormsBB
import Derived.Test.YtbmppmdklappiaaDoorQDeflateFormsBD
namespace Go.Proofs.YtbmppmdklappiaaDoor.Aw
open Go
set_option linter.unusedSimpArgs false
set_option linter.unusedVariables false
def lastM (b : List UInt8) (m : List (K3 × Nat)) (p : Int) : Int := match startM b p with
  | some k => (match mfd k m with
    | some q => (q : Int)
    | none => -32769)
  | none => -32769
set_option maxRecDepth 100000 in
theorem fd_lastLike_h [Tabs Tryd.prog] (nl : Bool) (b : List UInt8) (hb : b.length ≤ 20000) (t : Nat) (m : List (K3 × Nat)) (A : List Int) (p : Int) (h1 : -40000 ≤ p) (h2 : p ≤ 20000) :
    HCon Tryd.prog n_deflate_finder_lastLike [.op 1000 0 0, .sc (.int .i64 p)] (fdI nl b t m A) (int (lastM b m p)) (fdO nl b t m A) 5 := by
  refine HCon.of' mix Tryd.func102 rfl Tryd.ntmps102 e_deflate_finder_lastLike r_deflate_finder_lastLike (by simp) (by simp [AV.gl, AV.gl.glL]) fd_gl ?_
  unfold s_deflate_finder_lastLike
  have st := fd_start_h nl b hb t m A p h1 h2
  cases hs : startM b p with
  | none =>
    have hl : lastM b m p = -32769 := by rw [lastM, hs]
    have ho : AV.tup [kA ((startM b p).getD (0, 0, 0)), boo (startM b p).isSome] = .tup [.agg [.sc (.int .u8 0), .sc (.int .u8 0), .sc (.int .u8 0)], boo false] := by rw [hs]; rfl
    rw [ho] at st
    rw [hl]
    repeat (first | refine wA ?_ | refine wB ?_ | refine wC rfl ?_ | refine wD rfl ?_ | refine wE ?_ | refine wF (by omega) ?_ | ((first | refine wG ?_ | refine wH ?_ | refine wI ?_ | refine wJ ?_ | refine wK ?_ | refine wL ?_); simp (disch := omega) only [wP, wZ, undef, seval, if_pos, if_neg, aStore, frz, AV.flat, ↓reduceIte, ne_eq, reduceCtorEq, ByteArray.size]))
    refine goC_h [(1000, 0), (1001, 0), (1002, 0)] 2000 st (by simp) (by simp) ?_ ?_ ?_
    iterate 2 (case _ => simp (disch := omega) only [wP, wZ, undef, seval, if_pos, if_neg, aStore, frz, AV.flat, ↓reduceIte, ne_eq, reduceCtorEq, ByteArray.size, fdR, iR, renL_en, ren_tup])
    repeat (first | refine wA ?_ | refine wB ?_ | refine wC rfl ?_ | refine wD rfl ?_ | refine wE ?_ | refine wF (by omega) ?_ | ((first | refine wG ?_ | refine wH ?_ | refine wI ?_ | refine wJ ?_ | refine wK ?_ | refine wL ?_); simp (disch := omega) only [wP, wZ, undef, seval, if_pos, if_neg, aStore, frz, AV.flat, ↓reduceIte, ne_eq, reduceCtorEq, ByteArray.size, fdR, iR, renL_en, ren_tup]))
  | some k =>
    obtain ⟨x, y, z⟩ := k
    have ho : AV.tup [kA ((startM b p).getD (0, 0, 0)), boo (startM b p).isSome] = .tup [.agg [u8 x, u8 y, u8 z], boo true] := by rw [hs]; rfl
    rw [ho] at st
    have hm : mfind (.agg [.sc (.int .u8 (x.toNat : Int)), .sc (.int .u8 (y.toNat : Int)), .sc (.int .u8 (z.toNat : Int))]) (m.map enA) = (mfd (x, y, z) m).map nA := mfind_en (k := (x, y, z))
    have hk : likeA (.agg #[.int .u8 0, .int .u8 0, .int .u8 0]) (.agg [.sc (.int .u8 (x.toNat : Int)), .sc (.int .u8 (y.toNat : Int)), .sc (.int .u8 (z.toNat : Int))]) = True := like_kT (k := (x, y, z))
    obtain ⟨e, he⟩ : ∃ e, e = m.map enA := ⟨_, rfl⟩
    have hen : entsOk (.agg #[.int .u8 0, .int .u8 0, .int .u8 0]) e = True := by rw [he]; exact ents_enT
    have hre : ∀ ρ, ren.renL ρ e = e := fun ρ => by rw [he]; exact renL_en
    rw [← he] at hm
    simp only [fdI, fdO, ← he] at st ⊢
    cases hf : mfd (x, y, z) m with
    | none =>
      have hl : lastM b m p = -32769 := by rw [lastM, hs]; simp only [hf]
      rw [hf] at hm
      rw [hl]
      simp only [Option.map_none] at hm
      repeat (first | refine wA ?_ | refine wB ?_ | refine wC rfl ?_ | refine wD rfl ?_ | refine wE ?_ | refine wF (by omega) ?_ | ((first | refine wG ?_ | refine wH ?_ | refine wI ?_ | refine wJ ?_ | refine wK ?_ | refine wL ?_); simp (disch := omega) only [wP, wZ, undef, seval, if_pos, if_neg, aStore, frz, AV.flat, ↓reduceIte, ne_eq, reduceCtorEq, ByteArray.size]))
      refine goC_h [(1000, 0), (1001, 0), (1002, 0)] 2000 st (by simp) (by simp) ?_ ?_ ?_
      iterate 2 (case _ => simp (disch := omega) only [wP, wZ, undef, seval, if_pos, if_neg, aStore, frz, AV.flat, ↓reduceIte, ne_eq, reduceCtorEq, ByteArray.size, fdR, iR, hre, ren_tup])
      repeat (first | refine wA ?_ | refine wB ?_ | refine wC rfl ?_ | refine wD rfl ?_ | refine wE ?_ | refine wF (by omega) ?_ | ((first | refine wG ?_ | refine wH ?_ | refine wI ?_ | refine wJ ?_ | refine wK ?_ | refine wL ?_); simp (disch := omega) only [wP, wZ, undef, seval, if_pos, if_neg, aStore, frz, AV.flat, ↓reduceIte, ne_eq, reduceCtorEq, ByteArray.size, fdR, iR, hre, ren_tup, hm, hk, hen, zeroA, Option.isSome_none]))
    | some q =>
      have hl : lastM b m p = (q : Int) := by rw [lastM, hs]; simp only [hf]
      rw [hf] at hm
      rw [hl]
      simp only [Option.map_some, nA] at hm
      repeat (first | refine wA ?_ | refine wB ?_ | refine wC rfl ?_ | refine wD rfl ?_ | refine wE ?_ | refine wF (by omega) ?_ | ((first | refine wG ?_ | refine wH ?_ | refine wI ?_ | refine wJ ?_ | refine wK ?_ | refine wL ?_); simp (disch := omega) only [wP, wZ, undef, seval, if_pos, if_neg, aStore, frz, AV.flat, ↓reduceIte, ne_eq, reduceCtorEq, ByteArray.size]))
      refine goC_h [(1000, 0), (1001, 0), (1002, 0)] 2000 st (by simp) (by simp) ?_ ?_ ?_
      iterate 2 (case _ => simp (disch := omega) only [wP, wZ, undef, seval, if_pos, if_neg, aStore, frz, AV.flat, ↓reduceIte, ne_eq, reduceCtorEq, ByteArray.size, fdR, iR, hre, ren_tup])
      repeat (first | refine wA ?_ | refine wB ?_ | refine wC rfl ?_ | refine wD rfl ?_ | refine wE ?_ | refine wF (by omega) ?_ | ((first | refine wG ?_ | refine wH ?_ | refine wI ?_ | refine wJ ?_ | refine wK ?_ | refine wL ?_); simp (disch := omega) only [wP, wZ, undef, seval, if_pos, if_neg, aStore, frz, AV.flat, ↓reduceIte, ne_eq, reduceCtorEq, ByteArray.size, fdR, iR, hre, ren_tup, hm, hk, hen, zeroA, Option.isSome_some]))
def longM (b : List UInt8) (A : List Int) (at_ most : Nat) : Nat → Int → Nat → Nat → Nat × Nat
  | 0, _, l, k => (l, k)
  | t + 1, p, l, k => if 32768 < (at_ : Int) - p ∨ l = most then (l, k) else
    if l < alikeM b p.toNat at_ most then longM b A at_ most t (A.getD p.toNat 0) (alikeM b p.toNat at_ most) (at_ - p.toNat)
    else longM b A at_ most t (A.getD p.toNat 0) l k
structure FInv (b : List UInt8) (m : List (K3 × Nat)) (A : List Int) (at_ : Nat) : Prop where
  len : A.length = b.length
  map : ∀ e ∈ m, e.2 < at_ ∧ startM b (e.2 : Int) = some e.1
  chain : ∀ p, p < at_ → (startM b (p : Int)).isSome = true → A.getD p 0 = -32769 ∨ (0 ≤ A.getD p 0 ∧ A.getD p 0 < (p : Int) ∧ startM b (A.getD p 0) = startM b (p : Int))
theorem mfd_mem {k : K3} {q : Nat} : ∀ {m : List (K3 × Nat)}, mfd k m = some q → (k, q) ∈ m
  | [], h => by simp [mfd] at h
  | e :: m, h => by
    rw [mfd] at h
    split at h
    · rename_i c; cases h; rw [c]; simp
    · exact List.mem_cons_of_mem _ (mfd_mem h)
theorem lastM_ok {b : List UInt8} {m : List (K3 × Nat)} {A : List Int} {at_ : Nat} (h : FInv b m A at_) : lastM b m (at_ : Int) = -32769 ∨ (0 ≤ lastM b m (at_ : Int) ∧ lastM b m (at_ : Int) < (at_ : Int) ∧ startM b (lastM b m (at_ : Int)) = startM b (at_ : Int) ∧ (startM b (at_ : Int)).isSome = true) := by
  cases hs : startM b (at_ : Int) with
  | none => exact .inl (by rw [lastM, hs])
  | some k =>
    cases hf : mfd k m with
    | none => exact .inl (by rw [lastM, hs]; simp only [hf])
    | some q =>
      have hl : lastM b m (at_ : Int) = (q : Int) := by rw [lastM, hs]; simp only [hf]
      obtain ⟨h1, h2⟩ := h.map _ (mfd_mem hf)
      rw [hl]
      exact .inr ⟨Int.natCast_nonneg _, Int.ofNat_lt.2 h1, h2, rfl⟩
def runOk (b : List UInt8) (at_ most : Nat) (r : Nat × Nat) : Prop := r.1 = 0 ∨ (3 ≤ r.1 ∧ r.1 ≤ most ∧ 1 ≤ r.2 ∧ r.2 ≤ at_ ∧ ∀ i, i < r.1 → b.getD (at_ - r.2 + i) 0 = b.getD (at_ + i) 0)
theorem start_eq3 {b : List UInt8} {p q : Int} (h : startM b p = startM b q) (hs : (startM b q).isSome = true) (hp : 0 ≤ p) (hq : 0 ≤ q) : ∀ i, i < 3 → b.getD (p.toNat + i) 0 = b.getD (q.toNat + i) 0 := by
  have h1 : startM b q = some (b.getD q.toNat 0, b.getD (q.toNat + 1) 0, b.getD (q.toNat + 2) 0) := by
    unfold startM at hs ⊢
    split at hs
    · simp at hs
    · rename_i c; rw [if_neg c]
  have h2 : startM b p = some (b.getD p.toNat 0, b.getD (p.toNat + 1) 0, b.getD (p.toNat + 2) 0) := by
    rw [h1] at h
    unfold startM at h ⊢
    split at h
    · simp at h
    · rename_i c; rw [if_neg c]
  rw [h1, h2] at h
  simp only [Option.some.injEq, Prod.mk.injEq] at h
  intro i hi
  match i, hi with
  | 0, _ => exact h.1
  | 1, _ => exact h.2.1
  | 2, _ => exact h.2.2
theorem longM_ok {b : List UInt8} {m : List (K3 × Nat)} {A : List Int} {at_ most : Nat} (h : FInv b m A at_) (hat : at_ + most ≤ b.length) (h3 : (startM b (at_ : Int)).isSome = true → 3 ≤ most) : ∀ (t : Nat) (p : Int) (l k : Nat),
    (p = -32769 ∨ (0 ≤ p ∧ p < (at_ : Int) ∧ startM b p = startM b (at_ : Int) ∧ (startM b (at_ : Int)).isSome = true)) → runOk b at_ most (l, k) → runOk b at_ most (longM b A at_ most t p l k)
  | 0, p, l, k, _, hr => hr
  | t + 1, p, l, k, hp, hr => by
    rw [longM]
    by_cases c : 32768 < (at_ : Int) - p ∨ l = most
    · rw [if_pos c]; exact hr
    · rw [if_neg c]
      rcases hp with hp | ⟨p0, p1, p2, p3⟩
      · omega
      · have hnext : A.getD p.toNat 0 = -32769 ∨ (0 ≤ A.getD p.toNat 0 ∧ A.getD p.toNat 0 < (at_ : Int) ∧ startM b (A.getD p.toNat 0) = startM b (at_ : Int) ∧ (startM b (at_ : Int)).isSome = true) := by
          have hc := h.chain p.toNat (by omega) (by rw [Int.toNat_of_nonneg p0, p2]; exact p3)
          rw [Int.toNat_of_nonneg p0] at hc
          rcases hc with hc | ⟨q0, q1, q2⟩
          · exact .inl hc
          · exact .inr ⟨q0, by omega, by rw [q2, p2], p3⟩
        split
        · rename_i hl
          refine longM_ok h hat h3 t _ _ _ hnext (.inr ⟨?_, alike_le, by omega, by omega, fun i hi => ?_⟩)
          · rcases Nat.lt_or_ge (alikeM b p.toNat at_ most) 3 with hlt | hge
            · exfalso
              have hn3 := h3 p3
              have e3 := start_eq3 p2 p3 p0 (Int.natCast_nonneg _)
              obtain ⟨n, hn⟩ : ∃ n, n = alikeM b p.toNat at_ most := ⟨_, rfl⟩
              have hge : 3 ≤ alikeM b p.toNat at_ most := by
                unfold alikeM
                have e : List.range most = List.range 3 ++ (List.range (most - 3)).map (3 + ·) := by
                  have := List.range_add (n := 3) (m := most - 3)
                  rwa [show 3 + (most - 3) = most by omega] at this
                rw [e, List.takeWhile_append_of_pos (by
                  intro i hi
                  simp only [beq_iff_eq]
                  have := e3 i (List.mem_range.1 hi)
                  simpa using this), List.length_append, List.length_range]
                omega
              omega
            · exact hge
          · rw [show at_ - (at_ - p.toNat) + i = p.toNat + i by omega]
            exact alike_get hi
        · exact longM_ok h hat h3 t _ _ _ hnext hr
set_option maxHeartbeats 1000000 in
set_option maxRecDepth 100000 in
theorem fd_longest_h [Tabs Tryd.prog] (nl : Bool) (b : List UInt8) (hb : b.length ≤ 20000) (t : Nat) (ht : t ≤ 20000) (m : List (K3 × Nat)) (A : List Int) (at_ : Nat) (hat : at_ < b.length) (hI : FInv b m A at_) (R : Nat × Nat)
    (hR : R = longM b A at_ (min 258 (b.length - at_)) t (lastM b m (at_ : Int)) 0 0) :
    HCon Tryd.prog n_deflate_finder_longest [.op 1000 0 0, .sc (.int .i64 (at_ : Int))] (fdI nl b t m A) (.tup [.sc (.int .i64 (R.1 : Int)), .sc (.int .i64 (R.2 : Int))]) (fdO nl b t m A) 100000 := by
  refine HCon.of' mix Tryd.func79 rfl Tryd.ntmps79 e_deflate_finder_longest r_deflate_finder_longest (by simp) (by simp [AV.gl, AV.gl.glL]) fd_gl ?_
  unfold s_deflate_finder_longest
  obtain ⟨most, hmost⟩ : ∃ x, x = min 258 (b.length - at_) := ⟨_, rfl⟩
  have hmin : (if (b.length : Int) - (at_ : Int) < 258 then (b.length : Int) - (at_ : Int) else 258) = (most : Int) := by
    split <;> omega
  have ll := fd_lastLike_h nl b hb t m A (at_ : Int) (by omega) (by omega)
  have hp0 := lastM_ok hI
  obtain ⟨p0, hp0e⟩ : ∃ x, x = lastM b m (at_ : Int) := ⟨_, rfl⟩
  rw [← hmost, ← hp0e] at hR
  rw [← hp0e] at ll hp0
  have hlen := hI.len
  obtain ⟨e, he⟩ : ∃ e, e = m.map enA := ⟨_, rfl⟩
  have hre : ∀ ρ, ren.renL ρ e = e := fun ρ => by rw [he]; exact renL_en
  simp only [fdI, fdO, ← he] at ll ⊢
  repeat (first | refine wA ?_ | refine wB ?_ | refine wC rfl ?_ | refine wD rfl ?_ | refine wE ?_ | refine wF (by omega) ?_ | ((first | refine wG ?_ | refine wH ?_ | refine wI ?_ | refine wJ ?_ | refine wK ?_ | refine wL ?_); simp (disch := omega) only [wP, wZ, undef, seval, if_pos, if_neg, aStore, frz, AV.flat, ↓reduceIte, ne_eq, reduceCtorEq, ByteArray.size, fdR, iR, List.length_map, hmin]))
  refine goC_h [(1000, 0), (1001, 0), (1002, 0)] 2000 ll (by simp) (by simp) ?_ ?_ ?_
  iterate 2 (case _ => simp (disch := omega) only [wP, wZ, undef, seval, if_pos, if_neg, aStore, frz, AV.flat, ↓reduceIte, ne_eq, reduceCtorEq, ByteArray.size, fdR, iR, hre, ren_tup])
  repeat (first | refine wA ?_ | refine wB ?_ | refine wC rfl ?_ | refine wD rfl ?_ | refine wE ?_ | refine wF (by omega) ?_ | ((first | refine wG ?_ | refine wH ?_ | refine wI ?_ | refine wJ ?_ | refine wK ?_ | refine wL ?_); simp (disch := omega) only [wP, wZ, undef, seval, if_pos, if_neg, aStore, frz, AV.flat, ↓reduceIte, ne_eq, reduceCtorEq, ByteArray.size, fdR, iR, hre, ren_tup]))
  refine SWp.loop (α := Nat × Int × Nat × Nat × Nat) (fun x => mk 63 x.2.2.2.2 [(0, .op 1000 0 0), (1, .sc (.int .i64 (at_ : Int))), (4, int x.2.2.1), (5, int x.2.2.2.1), (6, int most), (7, .sc (.int .i64 x.2.1)), (23, int t), (24, int x.1)] (fdO nl b t m A))
    (fun x => x.1 ≤ t ∧ R = longM b A at_ most (t - x.1) x.2.1 x.2.2.1 x.2.2.2.1 ∧ x.2.2.1 ≤ 258 ∧ (x.2.1 = -32769 ∨ (0 ≤ x.2.1 ∧ x.2.1 < (at_ : Int) ∧ startM b x.2.1 = startM b (at_ : Int) ∧ (startM b (at_ : Int)).isSome = true)) ∧ x.2.2.2.2 ≤ 6 + x.1) (fun x => t - x.1) (0, p0, 0, 0, 6) ⟨Nat.zero_le _, by simpa using hR, Nat.zero_le _, hp0, by simp⟩ (le_mk rfl ?_ ?_ ?_) ?_
  · exact Nat.le_refl _
  iterate 2 (case _ => simp (disch := omega) only [wP, wZ, undef, seval, if_pos, if_neg, aStore, frz, AV.flat, ↓reduceIte, ne_eq, reduceCtorEq, ByteArray.size, fdR, ← he])
  rintro ⟨i, p, l, k, gc⟩ ⟨hi, hRi, hl, hp, hgc⟩ -
  simp only at hi hRi hl hp hgc
  by_cases ci : i < t
  · have di : decide ((i : Int) < (t : Int)) = true := decide_eq_true (by omega)
    obtain ⟨j, hj⟩ : ∃ j, t - i = j + 1 := ⟨t - i - 1, by omega⟩
    have hj2 : t - (i + 1) = j := by omega
    rw [hj, longM] at hRi
    by_cases c1 : 32768 < (at_ : Int) - p
    · have d1 := decide_eq_true c1
      rw [if_pos (.inl c1)] at hRi
      rw [hRi]
      repeat (first | refine wA ?_ | refine wB ?_ | refine wC rfl ?_ | refine wD rfl ?_ | refine wE ?_ | refine wF (by omega) ?_ | ((first | refine wG ?_ | refine wH ?_ | refine wI ?_ | refine wJ ?_ | refine wK ?_ | refine wL ?_); simp (disch := omega) only [wP, wZ, undef, seval, if_pos, if_neg, aStore, frz, AV.flat, ↓reduceIte, ne_eq, reduceCtorEq, ByteArray.size, di, d1, fdR, iR, ← he]))
      try omega
    have d1 := decide_eq_false c1
    by_cases c2 : l = most
    · have d2 : decide ((l : Int) = (most : Int)) = true := decide_eq_true (by omega)
      rw [if_pos (.inr c2)] at hRi
      rw [hRi]
      repeat (first | refine wA ?_ | refine wB ?_ | refine wC rfl ?_ | refine wD rfl ?_ | refine wE ?_ | refine wF (by omega) ?_ | ((first | refine wG ?_ | refine wH ?_ | refine wI ?_ | refine wJ ?_ | refine wK ?_ | refine wL ?_); simp (disch := omega) only [wP, wZ, undef, seval, if_pos, if_neg, aStore, frz, AV.flat, ↓reduceIte, ne_eq, reduceCtorEq, ByteArray.size, di, d1, d2, fdR, iR, ← he]))
      try omega
    have d2 : decide ((l : Int) = (most : Int)) = false := decide_eq_false (by omega)
    rw [if_neg (by omega)] at hRi
    rcases hp with hp | ⟨hp0', hp1, hp2, hp3⟩
    · omega
    obtain ⟨q, rfl⟩ : ∃ q : Nat, p = (q : Int) := ⟨p.toNat, by omega⟩
    rw [Int.toNat_natCast] at hRi
    have al := fd_alike_h nl b hb t m A q at_ most (by omega) (by omega)
    have hale := alike_le (b := b) (p := q) (q := at_) (most := most)
    obtain ⟨n, hn⟩ : ∃ n, n = alikeM b q at_ most := ⟨_, rfl⟩
    rw [← hn] at al hRi hale
    have hrem : Int.tmod (q : Int) (A.length : Int) = (q : Int) := Int.tmod_eq_of_lt (by omega) (by omega)
    have hga : (A.map int).getD q .junk = .sc (.int .i64 (A.getD q 0)) := getD_zA (by omega)
    have hnext : A.getD q 0 = -32769 ∨ (0 ≤ A.getD q 0 ∧ A.getD q 0 < (at_ : Int) ∧ startM b (A.getD q 0) = startM b (at_ : Int) ∧ (startM b (at_ : Int)).isSome = true) := by
      rcases hI.chain q (by omega) (by rw [hp2]; exact hp3) with hc | ⟨q0, q1, q2⟩
      · exact .inl hc
      · exact .inr ⟨q0, by omega, by rw [q2, hp2], hp3⟩
    obtain ⟨nx, hnx⟩ : ∃ y, y = A.getD q 0 := ⟨_, rfl⟩
    rw [← hnx] at hga hnext hRi
    have hnxb : -32769 ≤ nx ∧ nx ≤ 20000 := by omega
    have hA0 : decide ((A.length : Int) = 0) = false := decide_eq_false (by omega)
    simp only [fdI, fdO, ← he] at al
    repeat (first | refine wA ?_ | refine wB ?_ | refine wC rfl ?_ | refine wD rfl ?_ | refine wE ?_ | refine wF (by omega) ?_ | ((first | refine wG ?_ | refine wH ?_ | refine wI ?_ | refine wJ ?_ | refine wK ?_ | refine wL ?_); simp (disch := omega) only [wP, wZ, undef, seval, if_pos, if_neg, aStore, frz, AV.flat, ↓reduceIte, ne_eq, reduceCtorEq, ByteArray.size, di, d1, d2, fdR, iR, ← he]))
    refine goC_h [(1000, 0), (1001, 0), (1002, 0)] 2000 al (by simp) (by simp) ?_ ?_ ?_
    iterate 2 (case _ => simp (disch := omega) only [wP, wZ, undef, seval, if_pos, if_neg, aStore, frz, AV.flat, ↓reduceIte, ne_eq, reduceCtorEq, ByteArray.size, fdR, iR, hre, ren_tup, ← he])
    by_cases c3 : l < n
    · have d3 : decide ((l : Int) < (n : Int)) = true := decide_eq_true (by omega)
      have hk : (at_ : Int) - (q : Int) = ((at_ - q : Nat) : Int) := by omega
      obtain ⟨kk, hkk⟩ : ∃ y, y = at_ - q := ⟨_, rfl⟩
      rw [← hkk] at hk hRi
      rw [if_pos c3] at hRi
      repeat (first | refine wA ?_ | refine wB ?_ | refine wC rfl ?_ | refine wD rfl ?_ | refine wE ?_ | refine wF (by omega) ?_ | ((first | refine wG ?_ | refine wH ?_ | refine wI ?_ | refine wJ ?_ | refine wK ?_ | refine wL ?_); simp (disch := omega) only [wP, wZ, undef, seval, if_pos, if_neg, aStore, frz, AV.flat, ↓reduceIte, ne_eq, reduceCtorEq, ByteArray.size, fdR, iR, hre, ren_tup, d3, hk, hrem, hga, List.length_map]))
      refine At.of (i + 1, nx, n, kk, gc + 1) ⟨by simp only; omega, by simp only; rw [hj2]; exact hRi, by simp only; omega, hnext, by simp only; omega⟩ (by simp only; omega) rfl rfl (Nat.le_refl _) ?_ ?_
      iterate 2 (case _ => simp (disch := omega) only [wP, wZ, undef, seval, if_pos, if_neg, aStore, frz, AV.flat, ↓reduceIte, ne_eq, reduceCtorEq, ByteArray.size, fdR, ← he])
    · have d3 : decide ((l : Int) < (n : Int)) = false := decide_eq_false (by omega)
      rw [if_neg c3] at hRi
      repeat (first | refine wA ?_ | refine wB ?_ | refine wC rfl ?_ | refine wD rfl ?_ | refine wE ?_ | refine wF (by omega) ?_ | ((first | refine wG ?_ | refine wH ?_ | refine wI ?_ | refine wJ ?_ | refine wK ?_ | refine wL ?_); simp (disch := omega) only [wP, wZ, undef, seval, if_pos, if_neg, aStore, frz, AV.flat, ↓reduceIte, ne_eq, reduceCtorEq, ByteArray.size, fdR, iR, hre, ren_tup, d3, hrem, hga, List.length_map]))
      refine At.of (i + 1, nx, l, k, gc + 1) ⟨by simp only; omega, by simp only; rw [hj2]; exact hRi, by simp only; omega, hnext, by simp only; omega⟩ (by simp only; omega) rfl rfl (Nat.le_refl _) ?_ ?_
      iterate 2 (case _ => simp (disch := omega) only [wP, wZ, undef, seval, if_pos, if_neg, aStore, frz, AV.flat, ↓reduceIte, ne_eq, reduceCtorEq, ByteArray.size, fdR, ← he])
  · have di : decide ((i : Int) < (t : Int)) = false := decide_eq_false (by omega)
    rw [show t - i = 0 by omega, longM] at hRi
    rw [hRi]
    repeat (first | refine wA ?_ | refine wB ?_ | refine wC rfl ?_ | refine wD rfl ?_ | refine wE ?_ | refine wF (by omega) ?_ | ((first | refine wG ?_ | refine wH ?_ | refine wI ?_ | refine wJ ?_ | refine wK ?_ | refine wL ?_); simp (disch := omega) only [wP, wZ, undef, seval, if_pos, if_neg, aStore, frz, AV.flat, ↓reduceIte, ne_eq, reduceCtorEq, ByteArray.size, di, fdR, iR, ← he]))
    try omega
def addA (b : List UInt8) (m : List (K3 × Nat)) (A : List Int) (p : Nat) : List Int := if (startM b (p : Int)).isSome then A.set p (lastM b m (p : Int)) else A
def addM (b : List UInt8) (m : List (K3 × Nat)) (p : Nat) : List (K3 × Nat) := match startM b (p : Int) with
  | some k => mpt k p m
  | none => m
theorem mem_mpt {k : K3} {p : Nat} {e : K3 × Nat} : ∀ {m : List (K3 × Nat)}, e ∈ mpt k p m → e = (k, p) ∨ e ∈ m
  | [], h => by simp only [mpt, List.mem_singleton] at h; exact .inl h
  | a :: m, h => by
    rw [mpt] at h
    split at h
    · rename_i c
      rcases List.mem_cons.1 h with h | h
      · left; rw [h, c]
      · exact .inr (List.mem_cons_of_mem _ h)
    · rcases List.mem_cons.1 h with h | h
      · right; rw [h]; exact List.mem_cons_self ..
      · exact (mem_mpt h).imp id (List.mem_cons_of_mem _)
theorem FInv.add {b : List UInt8} {m : List (K3 × Nat)} {A : List Int} {p : Nat} (h : FInv b m A p) (hp : p < b.length) : FInv b (addM b m p) (addA b m A p) (p + 1) := by
  refine ⟨?_, ?_, ?_⟩
  · unfold addA; split
    · rw [List.length_set]; exact h.len
    · exact h.len
  · intro e he
    unfold addM at he
    split at he
    · rename_i k hk
      rcases mem_mpt he with rfl | he
      · exact ⟨by simp only; omega, hk⟩
      · obtain ⟨h1, h2⟩ := h.map e he
        exact ⟨by omega, h2⟩
    · obtain ⟨h1, h2⟩ := h.map e he
      exact ⟨by omega, h2⟩
  · intro q hq hs
    by_cases c : q = p
    · subst c
      unfold addA
      rw [if_pos hs]
      have e : (A.set q (lastM b m (q : Int))).getD q 0 = lastM b m (q : Int) := by
        have : q < A.length := by rw [h.len]; exact hp
        simp [List.getD, this]
      rw [e]
      rcases lastM_ok h with h1 | ⟨h1, h2, h3, _⟩
      · exact .inl h1
      · exact .inr ⟨h1, h2, h3⟩
    · have e : (addA b m A p).getD q 0 = A.getD q 0 := by
        unfold addA
        split
        · simp [List.getD, List.getElem?_set_ne (Ne.symm c)]
        · rfl
      rw [e]
      exact h.chain q (by omega) hs
theorem FInv.start {b : List UInt8} : FInv b [] (List.replicate b.length 0) 0 := ⟨by simp, by simp, fun p hp => by omega⟩
set_option maxHeartbeats 1000000 in
set_option maxRecDepth 100000 in
theorem fd_add_h [Tabs Tryd.prog] (nl : Bool) (b : List UInt8) (hb : b.length ≤ 20000) (t : Nat) (m : List (K3 × Nat)) (A : List Int) (hA : A.length = b.length) (p : Nat) (hp : p < b.length) (hlast : -32769 ≤ lastM b m (p : Int) ∧ lastM b m (p : Int) ≤ 20000) :
    HCon Tryd.prog n_deflate_finder_add [.op 1000 0 0, .sc (.int .i64 (p : Int))] (fdI nl b t m A) (.tup []) (fdO nl b t (addM b m p) (addA b m A p)) 14 := by
  refine HCon.of' mix Tryd.func80 rfl Tryd.ntmps80 e_deflate_finder_add r_deflate_finder_add (by simp) (by simp [AV.gl, AV.gl.glL]) fd_gl ?_
  unfold s_deflate_finder_add
  have so := fd_start_h nl b hb t m A ((p : Int) - 32768) (by omega) (by omega)
  have hso : startM b ((p : Int) - 32768) = none := if_pos (.inl (by omega))
  have hoo : AV.tup [kA ((startM b ((p : Int) - 32768)).getD (0, 0, 0)), boo (startM b ((p : Int) - 32768)).isSome] = .tup [.agg [.sc (.int .u8 0), .sc (.int .u8 0), .sc (.int .u8 0)], boo false] := by rw [hso]; rfl
  rw [hoo] at so
  have sn := fd_start_h nl b hb t m A (p : Int) (by omega) (by omega)
  have ll := fd_lastLike_h nl b hb t m A (p : Int) (by omega) (by omega)
  obtain ⟨e, he⟩ : ∃ e, e = m.map enA := ⟨_, rfl⟩
  have hre : ∀ ρ, ren.renL ρ e = e := fun ρ => by rw [he]; exact renL_en
  cases hs : startM b (p : Int) with
  | none =>
    have ho : AV.tup [kA ((startM b (p : Int)).getD (0, 0, 0)), boo (startM b (p : Int)).isSome] = .tup [.agg [.sc (.int .u8 0), .sc (.int .u8 0), .sc (.int .u8 0)], boo false] := by rw [hs]; rfl
    rw [ho] at sn
    have eM : addM b m p = m := by rw [addM, hs]
    have eA : addA b m A p = A := by rw [addA, hs]; rfl
    rw [eM, eA]
    simp only [fdI, fdO, ← he] at so sn ⊢
    repeat (first | refine wA ?_ | refine wB ?_ | refine wC rfl ?_ | refine wD rfl ?_ | refine wE ?_ | refine wF (by omega) ?_ | ((first | refine wG ?_ | refine wH ?_ | refine wI ?_ | refine wJ ?_ | refine wK ?_ | refine wL ?_); simp (disch := omega) only [wP, wZ, undef, seval, if_pos, if_neg, aStore, frz, AV.flat, ↓reduceIte, ne_eq, reduceCtorEq, ByteArray.size]))
    refine goC_h [(1000, 0), (1001, 0), (1002, 0)] 2000 so (by simp) (by simp) ?_ ?_ ?_
    iterate 2 (case _ => simp (disch := omega) only [wP, wZ, undef, seval, if_pos, if_neg, aStore, frz, AV.flat, ↓reduceIte, ne_eq, reduceCtorEq, ByteArray.size, fdR, iR, hre, ren_tup])
    repeat (first | refine wA ?_ | refine wB ?_ | refine wC rfl ?_ | refine wD rfl ?_ | refine wE ?_ | refine wF (by omega) ?_ | ((first | refine wG ?_ | refine wH ?_ | refine wI ?_ | refine wJ ?_ | refine wK ?_ | refine wL ?_); simp (disch := omega) only [wP, wZ, undef, seval, if_pos, if_neg, aStore, frz, AV.flat, ↓reduceIte, ne_eq, reduceCtorEq, ByteArray.size, fdR, iR, hre, ren_tup]))
    refine goC_h [(1000, 0), (1001, 0), (1002, 0)] 3000 sn (by simp) (by simp) ?_ ?_ ?_
    iterate 2 (case _ => simp (disch := omega) only [wP, wZ, undef, seval, if_pos, if_neg, aStore, frz, AV.flat, ↓reduceIte, ne_eq, reduceCtorEq, ByteArray.size, fdR, iR, hre, ren_tup])
    repeat (first | refine wA ?_ | refine wB ?_ | refine wC rfl ?_ | refine wD rfl ?_ | refine wE ?_ | refine wF (by omega) ?_ | ((first | refine wG ?_ | refine wH ?_ | refine wI ?_ | refine wJ ?_ | refine wK ?_ | refine wL ?_); simp (disch := omega) only [wP, wZ, undef, seval, if_pos, if_neg, aStore, frz, AV.flat, ↓reduceIte, ne_eq, reduceCtorEq, ByteArray.size, fdR, iR, hre, ren_tup]))
  | some k =>
    obtain ⟨x, y, z⟩ := k
    have ho : AV.tup [kA ((startM b (p : Int)).getD (0, 0, 0)), boo (startM b (p : Int)).isSome] = .tup [.agg [u8 x, u8 y, u8 z], boo true] := by rw [hs]; rfl
    rw [ho] at sn
    have eM : addM b m p = mpt (x, y, z) p m := by rw [addM, hs]
    obtain ⟨la, hla⟩ : ∃ la, la = lastM b m (p : Int) := ⟨_, rfl⟩
    rw [← hla] at ll hlast
    have eA : addA b m A p = A.set p la := by rw [addA, hs, hla]; rfl
    rw [eM, eA]
    have hput : mput (.agg [.sc (.int .u8 (x.toNat : Int)), .sc (.int .u8 (y.toNat : Int)), .sc (.int .u8 (z.toNat : Int))]) (.sc (.int .i64 (p : Int))) e = (mpt (x, y, z) p m).map enA := by rw [he]; exact mput_en (k := (x, y, z))
    have hk : likeA (.agg #[.int .u8 0, .int .u8 0, .int .u8 0]) (.agg [.sc (.int .u8 (x.toNat : Int)), .sc (.int .u8 (y.toNat : Int)), .sc (.int .u8 (z.toNat : Int))]) = True := like_kT (k := (x, y, z))
    have hen : entsOk (.agg #[.int .u8 0, .int .u8 0, .int .u8 0]) e = True := by rw [he]; exact ents_enT
    have hrem : Int.tmod (p : Int) (A.length : Int) = (p : Int) := Int.tmod_eq_of_lt (by omega) (by omega)
    have hset : (A.take p).map int ++ (.sc (.int .i64 la) :: (A.drop (p + 1)).map int) = (A.set p la).map int := splice_zA (by omega)
    have hsl : (A.set p la).length = A.length := List.length_set
    obtain ⟨e', he'⟩ : ∃ e', e' = (mpt (x, y, z) p m).map enA := ⟨_, rfl⟩
    rw [← he'] at hput
    simp only [fdI, fdO, ← he, ← he'] at so sn ll ⊢
    repeat (first | refine wA ?_ | refine wB ?_ | refine wC rfl ?_ | refine wD rfl ?_ | refine wE ?_ | refine wF (by omega) ?_ | ((first | refine wG ?_ | refine wH ?_ | refine wI ?_ | refine wJ ?_ | refine wK ?_ | refine wL ?_); simp (disch := omega) only [wP, wZ, undef, seval, if_pos, if_neg, aStore, frz, AV.flat, ↓reduceIte, ne_eq, reduceCtorEq, ByteArray.size]))
    refine goC_h [(1000, 0), (1001, 0), (1002, 0)] 2000 so (by simp) (by simp) ?_ ?_ ?_
    iterate 2 (case _ => simp (disch := omega) only [wP, wZ, undef, seval, if_pos, if_neg, aStore, frz, AV.flat, ↓reduceIte, ne_eq, reduceCtorEq, ByteArray.size, fdR, iR, hre, ren_tup])
    repeat (first | refine wA ?_ | refine wB ?_ | refine wC rfl ?_ | refine wD rfl ?_ | refine wE ?_ | refine wF (by omega) ?_ | ((first | refine wG ?_ | refine wH ?_ | refine wI ?_ | refine wJ ?_ | refine wK ?_ | refine wL ?_); simp (disch := omega) only [wP, wZ, undef, seval, if_pos, if_neg, aStore, frz, AV.flat, ↓reduceIte, ne_eq, reduceCtorEq, ByteArray.size, fdR, iR, hre, ren_tup]))
    refine goC_h [(1000, 0), (1001, 0), (1002, 0)] 3000 sn (by simp) (by simp) ?_ ?_ ?_
    iterate 2 (case _ => simp (disch := omega) only [wP, wZ, undef, seval, if_pos, if_neg, aStore, frz, AV.flat, ↓reduceIte, ne_eq, reduceCtorEq, ByteArray.size, fdR, iR, hre, ren_tup])
    repeat (first | refine wA ?_ | refine wB ?_ | refine wC rfl ?_ | refine wD rfl ?_ | refine wE ?_ | refine wF (by omega) ?_ | ((first | refine wG ?_ | refine wH ?_ | refine wI ?_ | refine wJ ?_ | refine wK ?_ | refine wL ?_); simp (disch := omega) only [wP, wZ, undef, seval, if_pos, if_neg, aStore, frz, AV.flat, ↓reduceIte, ne_eq, reduceCtorEq, ByteArray.size, fdR, iR, hre, ren_tup, List.length_map, hrem]))
    refine goC_h [(1000, 0), (1001, 0), (1002, 0)] 4000 ll (by simp) (by simp) ?_ ?_ ?_
    iterate 2 (case _ => simp (disch := omega) only [wP, wZ, undef, seval, if_pos, if_neg, aStore, frz, AV.flat, ↓reduceIte, ne_eq, reduceCtorEq, ByteArray.size, fdR, iR, hre, ren_tup])
    repeat (first | refine wA ?_ | refine wB ?_ | refine wC rfl ?_ | refine wD rfl ?_ | refine wE ?_ | refine wF (by omega) ?_ | ((first | refine wG ?_ | refine wH ?_ | refine wI ?_ | refine wJ ?_ | refine wK ?_ | refine wL ?_); simp (disch := omega) only [wP, wZ, undef, seval, if_pos, if_neg, aStore, frz, AV.flat, ↓reduceIte, ne_eq, reduceCtorEq, ByteArray.size, fdR, iR, hre, ren_tup, List.length_map, hrem, hset, hen, hk, hput, hsl]))
end Go.Proofs.YtbmppmdklappiaaDoor.Aw
namespace Go.Proofs.YtbmppmdklappiaaDoor.Aw
open Go
set_option linter.unusedSimpArgs false
set_option linter.unusedVariables false
def blen (v : Nat) : Nat := (List.range 17).countP fun k => decide (2 ^ k ≤ v)
set_option maxRecDepth 100000 in
theorem len8_at {i : Nat} (h : i < 256) : ([0, 1, 2, 2, 3, 3, 3, 3, 4, 4, 4, 4, 4, 4, 4, 4, 5, 5, 5, 5, 5, 5, 5, 5, 5, 5, 5, 5, 5, 5, 5, 5, 6, 6, 6, 6, 6, 6, 6, 6, 6, 6, 6, 6, 6, 6, 6, 6, 6, 6, 6, 6, 6, 6, 6, 6, 6, 6, 6, 6, 6, 6, 6, 6, 7, 7, 7, 7, 7, 7, 7, 7, 7, 7, 7, 7, 7, 7, 7, 7, 7, 7, 7, 7, 7, 7, 7, 7, 7, 7, 7, 7, 7, 7, 7, 7, 7, 7, 7, 7, 7, 7, 7, 7, 7, 7, 7, 7, 7, 7, 7, 7, 7, 7, 7, 7, 7, 7, 7, 7, 7, 7, 7, 7, 7, 7, 7, 7, 8, 8, 8, 8, 8, 8, 8, 8, 8, 8, 8, 8, 8, 8, 8, 8, 8, 8, 8, 8, 8, 8, 8, 8, 8, 8, 8, 8, 8, 8, 8, 8, 8, 8, 8, 8, 8, 8, 8, 8, 8, 8, 8, 8, 8, 8, 8, 8, 8, 8, 8, 8, 8, 8, 8, 8, 8, 8, 8, 8, 8, 8, 8, 8, 8, 8, 8, 8, 8, 8, 8, 8, 8, 8, 8, 8, 8, 8, 8, 8, 8, 8, 8, 8, 8, 8, 8, 8, 8, 8, 8, 8, 8, 8, 8, 8, 8, 8, 8, 8, 8, 8, 8, 8, 8, 8, 8, 8, 8, 8, 8, 8, 8, 8, 8, 8, 8, 8, 8, 8, 8, 8, 8, 8, 8, 8, 8, 8] : List UInt8).getD i 0 = UInt8.ofNat (blen i) :=
  (by decide +kernel : ∀ i, i < 256 → ([0, 1, 2, 2, 3, 3, 3, 3, 4, 4, 4, 4, 4, 4, 4, 4, 5, 5, 5, 5, 5, 5, 5, 5, 5, 5, 5, 5, 5, 5, 5, 5, 6, 6, 6, 6, 6, 6, 6, 6, 6, 6, 6, 6, 6, 6, 6, 6, 6, 6, 6, 6, 6, 6, 6, 6, 6, 6, 6, 6, 6, 6, 6, 6, 7, 7, 7, 7, 7, 7, 7, 7, 7, 7, 7, 7, 7, 7, 7, 7, 7, 7, 7, 7, 7, 7, 7, 7, 7, 7, 7, 7, 7, 7, 7, 7, 7, 7, 7, 7, 7, 7, 7, 7, 7, 7, 7, 7, 7, 7, 7, 7, 7, 7, 7, 7, 7, 7, 7, 7, 7, 7, 7, 7, 7, 7, 7, 7, 8, 8, 8, 8, 8, 8, 8, 8, 8, 8, 8, 8, 8, 8, 8, 8, 8, 8, 8, 8, 8, 8, 8, 8, 8, 8, 8, 8, 8, 8, 8, 8, 8, 8, 8, 8, 8, 8, 8, 8, 8, 8, 8, 8, 8, 8, 8, 8, 8, 8, 8, 8, 8, 8, 8, 8, 8, 8, 8, 8, 8, 8, 8, 8, 8, 8, 8, 8, 8, 8, 8, 8, 8, 8, 8, 8, 8, 8, 8, 8, 8, 8, 8, 8, 8, 8, 8, 8, 8, 8, 8, 8, 8, 8, 8, 8, 8, 8, 8, 8, 8, 8, 8, 8, 8, 8, 8, 8, 8, 8, 8, 8, 8, 8, 8, 8, 8, 8, 8, 8, 8, 8, 8, 8, 8, 8, 8, 8] : List UInt8).getD i 0 = UInt8.ofNat (blen i)) i h
theorem blen_le {v : Nat} : blen v ≤ 17 := Nat.le_trans List.countP_le_length (by simp)
theorem blen_small {v : Nat} (h : v < 256) : blen v ≤ 8 := (by decide +kernel : ∀ i, i < 256 → blen i ≤ 8) v h
theorem blen_shift {v : Nat} (h : 256 ≤ v) (h2 : v < 65536) : blen v = 8 + blen (v / 256) := by
  have e : List.range 17 = List.range 8 ++ (List.range 9).map (8 + ·) := by decide
  have e9 : List.range 17 = List.range 9 ++ (List.range 8).map (9 + ·) := by decide
  have h1 : blen v = 8 + ((List.range 9).map (8 + ·)).countP (fun k => decide (2 ^ k ≤ v)) := by
    unfold blen
    rw [e, List.countP_append]
    congr 1
    rw [List.countP_eq_length.2]
    · simp
    · intro k hk
      have hk := List.mem_range.1 hk
      have : 2 ^ k ≤ 2 ^ 8 := Nat.pow_le_pow_right (by omega) (by omega)
      simp only [decide_eq_true_eq]; omega
  have h3 : blen (v / 256) = (List.range 9).countP (fun k => decide (2 ^ k ≤ v / 256)) := by
    unfold blen
    rw [e9, List.countP_append]
    have : ((List.range 8).map (9 + ·)).countP (fun k => decide (2 ^ k ≤ v / 256)) = 0 := by
      rw [List.countP_eq_zero]
      intro k hk
      rw [List.mem_map] at hk
      obtain ⟨j, _, rfl⟩ := hk
      have : 2 ^ 9 ≤ 2 ^ (9 + j) := Nat.pow_le_pow_right (by omega) (by omega)
      simp only [decide_eq_true_eq]; omega
    omega
  rw [h1, h3, List.countP_map]
  congr 1
  refine List.countP_congr fun k hk => ?_
  simp only [Function.comp, decide_eq_true_eq]
  rw [Nat.pow_add, show (2 : Nat) ^ 8 = 256 from rfl, Nat.le_div_iff_mul_le (by omega), Nat.mul_comm]
set_option maxHeartbeats 1000000 in
set_option maxRecDepth 100000 in
theorem bits_Len64_c [Tabs Tryd.prog] (v : Nat) (hv : v < 65536) : Con Tryd.prog n_bits_Len64 [.sc (.int .u64 (v : Int))] (int (blen v : Int)) := by
  refine Con.of' mix Tryd.func112 rfl Tryd.ntmps112 e_bits_Len64 r_bits_Len64 (by simp) rfl rfl ?_
  unfold s_bits_Len64
  have d1 : decide ((4294967296 : Int) ≤ (v : Int)) = false := decide_eq_false (by omega)
  have d2 : decide ((65536 : Int) ≤ (v : Int)) = false := decide_eq_false (by omega)
  by_cases c : 256 ≤ v
  · have d3 : decide ((256 : Int) ≤ (v : Int)) = true := decide_eq_true (by omega)
    have hs := blen_shift c hv
    obtain ⟨w, hw⟩ : ∃ w, w = v / 256 := ⟨_, rfl⟩
    have hw2 : w < 256 := by omega
    have ht := len8_at hw2
    have hbl := blen_small hw2
    have hu : ((UInt8.ofNat (blen w)).toNat : Int) = (blen w : Int) := by rw [UInt8.toNat_ofNat']; omega
    rw [hs, ← hw]
    obtain ⟨y, hy⟩ : ∃ y, y = blen w := ⟨_, rfl⟩
    rw [← hy] at hbl hu ht ⊢
    have hwu : IntKind.u8.wrap (w : Int) = (w : Int) := wrap_u8_id (by omega) (by omega)
    have ef : ((v : Int).fdiv (2 ^ 8)) = (w : Int) := by rw [hw]; exact (Int.fdiv_eq_ediv_of_nonneg _ (by omega)).trans (by norm_cast)
    repeat (first | refine wA ?_ | refine wB ?_ | refine wC rfl ?_ | refine wD rfl ?_ | refine wE ?_ | refine wF (by omega) ?_ | ((first | refine wG ?_ | refine wH ?_ | refine wI ?_ | refine wJ ?_ | refine wK ?_ | refine wL ?_); simp (disch := omega) only [wP, wZ, undef, UInt8.reduceToNat, Nat.reduceOr, Nat.reduceAnd, Nat.reduceXor, Nat.reduceDiv, if_pos, if_neg, aStore, frz, AV.flat, ↓reduceIte, ne_eq, reduceCtorEq, Int.reduceToNat, Nat.reduceEqDiff, Nat.reduceAdd, Nat.reduceSub, Nat.reduceMul, Int.reduceAdd, Int.reduceMul, Int.reduceSub, Int.reduceLT, Int.reduceLE, Int.reduceEq, Int.reduceNe, Nat.reduceLeDiff, Nat.reduceLT, Int.reduceNeg, Nat.reducePow, Nat.reduceMod, ByteArray.size, d1, d2, d3, ← hw, hwu, ht, hu]))
  · have d3 : decide ((256 : Int) ≤ (v : Int)) = false := decide_eq_false (by omega)
    have ht := len8_at (i := v) (by omega)
    have hbl := blen_small (v := v) (by omega)
    have hu : ((UInt8.ofNat (blen v)).toNat : Int) = (blen v : Int) := by rw [UInt8.toNat_ofNat']; omega
    obtain ⟨y, hy⟩ : ∃ y, y = blen v := ⟨_, rfl⟩
    rw [← hy] at hbl hu ht ⊢
    have hwu : IntKind.u8.wrap (v : Int) = (v : Int) := wrap_u8_id (by omega) (by omega)
    repeat (first | refine wA ?_ | refine wB ?_ | refine wC rfl ?_ | refine wD rfl ?_ | refine wE ?_ | refine wF (by omega) ?_ | ((first | refine wG ?_ | refine wH ?_ | refine wI ?_ | refine wJ ?_ | refine wK ?_ | refine wL ?_); simp (disch := omega) only [wP, wZ, undef, UInt8.reduceToNat, Nat.reduceOr, Nat.reduceAnd, Nat.reduceXor, Nat.reduceDiv, if_pos, if_neg, aStore, frz, AV.flat, ↓reduceIte, ne_eq, reduceCtorEq, Int.reduceToNat, Nat.reduceEqDiff, Nat.reduceAdd, Nat.reduceSub, Nat.reduceMul, Int.reduceAdd, Int.reduceMul, Int.reduceSub, Int.reduceLT, Int.reduceLE, Int.reduceEq, Int.reduceNe, Nat.reduceLeDiff, Nat.reduceLT, Int.reduceNeg, Nat.reducePow, Nat.reduceMod, ByteArray.size, d1, d2, d3, hwu, ht, hu]))
theorem bits_Len_c [Tabs Tryd.prog] (v : Nat) (hv : v < 65536) : Con Tryd.prog n_bits_Len [.sc (.int .u64 (v : Int))] (int (blen v : Int)) := by
  refine Con.of' mix Tryd.func109 rfl Tryd.ntmps109 e_bits_Len r_bits_Len (by simp) rfl rfl ?_
  unfold s_bits_Len
  repeat (first | refine wA ?_ | refine wB ?_ | refine wC rfl ?_ | refine wD rfl ?_ | refine wE ?_ | refine wF (by omega) ?_ | ((first | refine wG ?_ | refine wH ?_ | refine wI ?_ | refine wJ ?_ | refine wK ?_ | refine wL ?_); simp (disch := omega) only [wP, wZ, undef, UInt8.reduceToNat, Nat.reduceOr, Nat.reduceAnd, Nat.reduceXor, Nat.reduceDiv, if_pos, if_neg, aStore, frz, AV.flat, ↓reduceIte, ne_eq, reduceCtorEq, Int.reduceToNat, Nat.reduceEqDiff, Nat.reduceAdd, Nat.reduceSub, Nat.reduceMul, Int.reduceAdd, Int.reduceMul, Int.reduceSub, Int.reduceLT, Int.reduceLE, Int.reduceEq, Int.reduceNe, Nat.reduceLeDiff, Nat.reduceLT, Int.reduceNeg, Nat.reducePow, Nat.reduceMod, ByteArray.size]))
  refine goC_p _ (.inl ⟨rfl, bits_Len64_c v hv⟩) ?_
  repeat (first | refine wA ?_ | refine wB ?_ | refine wC rfl ?_ | refine wD rfl ?_ | refine wE ?_ | refine wF (by omega) ?_ | ((first | refine wG ?_ | refine wH ?_ | refine wI ?_ | refine wJ ?_ | refine wK ?_ | refine wL ?_); simp (disch := omega) only [wP, wZ, undef, UInt8.reduceToNat, Nat.reduceOr, Nat.reduceAnd, Nat.reduceXor, Nat.reduceDiv, if_pos, if_neg, aStore, frz, AV.flat, ↓reduceIte, ne_eq, reduceCtorEq, Int.reduceToNat, Nat.reduceEqDiff, Nat.reduceAdd, Nat.reduceSub, Nat.reduceMul, Int.reduceAdd, Int.reduceMul, Int.reduceSub, Int.reduceLT, Int.reduceLE, Int.reduceEq, Int.reduceNe, Nat.reduceLeDiff, Nat.reduceLT, Int.reduceNeg, Nat.reducePow, Nat.reduceMod, ByteArray.size]))
def symLow (v h : Nat) : Nat := blen v - 1 - h
def symN (v h : Nat) : Nat := symLow v h * 2 ^ h + v / 2 ^ symLow v h
theorem fdiv_two {v w : Nat} : ((v : Int).fdiv (2 ^ w)) = ((v / 2 ^ w : Nat) : Int) := by
  rw [Int.fdiv_eq_ediv_of_nonneg _ (Int.le_of_lt (Int.pow_pos (by omega)))]
  norm_cast
set_option maxRecDepth 100000 in
theorem symbolOf_c [Tabs Tryd.prog] (v : Nat) (hv : v < 65536) (h : Nat) (hh : h = 1 ∨ h = 2) : Con Tryd.prog n_deflate_symbolOf [.sc (.int .i64 (v : Int)), .sc (.int .i64 (h : Int))] (.agg [.sc (.int .i64 (symN v h : Int)), .sc (.int .i64 (v : Int)), .sc (.int .i64 (symLow v h : Int))]) := by
  refine Con.of' mix Tryd.func100 rfl Tryd.ntmps100 e_deflate_symbolOf r_deflate_symbolOf (by simp) rfl rfl ?_
  unfold s_deflate_symbolOf
  have wu : IntKind.u64.wrap (v : Int) = (v : Int) := wrap_u64_id3 (by omega) (by omega)
  have hb := blen_le (v := v)
  obtain ⟨l, hl⟩ : ∃ l, l = symLow v h := ⟨_, rfl⟩
  have hmx : (if (0 : Int) < (blen v : Int) - 1 - (h : Int) then (blen v : Int) - 1 - (h : Int) else 0) = (l : Int) := by
    rw [hl, symLow]
    split <;> omega
  have hll : l ≤ 17 := by rw [hl, symLow]; omega
  obtain ⟨q, hq⟩ : ∃ q, q = v / 2 ^ l := ⟨_, rfl⟩
  have hql : q ≤ v := by rw [hq]; exact Nat.div_le_self _ _
  have eq1 : ((v : Int).fdiv (2 ^ l)) = (q : Int) := by rw [hq]; exact fdiv_two
  have hN : symN v h = l * 2 ^ h + q := by rw [symN, ← hl, ← hq]
  rw [hN, ← hl]
  clear eq1
  repeat (first | refine wA ?_ | refine wB ?_ | refine wC rfl ?_ | refine wD rfl ?_ | refine wE ?_ | refine wF (by omega) ?_ | ((first | refine wG ?_ | refine wH ?_ | refine wI ?_ | refine wJ ?_ | refine wK ?_ | refine wL ?_); simp (disch := omega) only [wP, wZ, undef, UInt8.reduceToNat, Nat.reduceOr, Nat.reduceAnd, Nat.reduceXor, Nat.reduceDiv, if_pos, if_neg, aStore, frz, AV.flat, ↓reduceIte, ne_eq, reduceCtorEq, Int.reduceToNat, Nat.reduceEqDiff, Nat.reduceAdd, Nat.reduceSub, Nat.reduceMul, Int.reduceAdd, Int.reduceMul, Int.reduceSub, Int.reduceLT, Int.reduceLE, Int.reduceEq, Int.reduceNe, Nat.reduceLeDiff, Nat.reduceLT, Int.reduceNeg, Nat.reducePow, Nat.reduceMod, ByteArray.size, wu]))
  refine goC_p _ (.inl ⟨rfl, bits_Len_c v hv⟩) ?_
  rcases hh with rfl | rfl
  · have hmx : (if (0 : Int) < (blen v : Int) - 1 - 1 then (blen v : Int) - 1 - 1 else 0) = (l : Int) := hmx
    repeat (first | refine wA ?_ | refine wB ?_ | refine wC rfl ?_ | refine wD rfl ?_ | refine wE ?_ | refine wF (by omega) ?_ | ((first | refine wG ?_ | refine wH ?_ | refine wI ?_ | refine wJ ?_ | refine wK ?_ | refine wL ?_); simp (disch := omega) only [wP, wZ, undef, UInt8.reduceToNat, Nat.reduceOr, Nat.reduceAnd, Nat.reduceXor, Nat.reduceDiv, if_pos, if_neg, aStore, frz, AV.flat, ↓reduceIte, ne_eq, reduceCtorEq, Int.reduceToNat, Nat.reduceEqDiff, Nat.reduceAdd, Nat.reduceSub, Nat.reduceMul, Int.reduceAdd, Int.reduceMul, Int.reduceSub, Int.reduceLT, Int.reduceLE, Int.reduceEq, Int.reduceNe, Nat.reduceLeDiff, Nat.reduceLT, Int.reduceNeg, Nat.reducePow, Nat.reduceMod, ByteArray.size, hmx, ← hq]))
  · have hmx : (if (0 : Int) < (blen v : Int) - 1 - 2 then (blen v : Int) - 1 - 2 else 0) = (l : Int) := hmx
    repeat (first | refine wA ?_ | refine wB ?_ | refine wC rfl ?_ | refine wD rfl ?_ | refine wE ?_ | refine wF (by omega) ?_ | ((first | refine wG ?_ | refine wH ?_ | refine wI ?_ | refine wJ ?_ | refine wK ?_ | refine wL ?_); simp (disch := omega) only [wP, wZ, undef, UInt8.reduceToNat, Nat.reduceOr, Nat.reduceAnd, Nat.reduceXor, Nat.reduceDiv, if_pos, if_neg, aStore, frz, AV.flat, ↓reduceIte, ne_eq, reduceCtorEq, Int.reduceToNat, Nat.reduceEqDiff, Nat.reduceAdd, Nat.reduceSub, Nat.reduceMul, Int.reduceAdd, Int.reduceMul, Int.reduceSub, Int.reduceLT, Int.reduceLE, Int.reduceEq, Int.reduceNe, Nat.reduceLeDiff, Nat.reduceLT, Int.reduceNeg, Nat.reducePow, Nat.reduceMod, ByteArray.size, hmx, ← hq]))
def pcA (p : Nat × Nat) : AV := .agg [.sc (.int .u16 (p.1 : Int)), .sc (.int .u16 (p.2 : Int))]
def pcOk (p : Nat × Nat) : Prop := (p.2 = 0 ∧ p.1 < 256) ∨ (0 < p.2 ∧ p.2 ≤ 32768 ∧ 3 ≤ p.1 ∧ p.1 ≤ 258)
def syA (s : Nat × Nat × Nat) : AV := .agg [.sc (.int .i64 (s.1 : Int)), .sc (.int .i64 (s.2.1 : Int)), .sc (.int .i64 (s.2.2 : Int))]
def litS (p : Nat × Nat) : Nat × Nat × Nat := if p.2 = 0 then (p.1, 0, 0) else if p.1 = 258 then (285, 0, 0) else (symN (p.1 - 3) 2 + 257, p.1 - 3, symLow (p.1 - 3) 2)
def dstS (p : Nat × Nat) : Nat × Nat × Nat := (symN (p.2 - 1) 1, p.2 - 1, symLow (p.2 - 1) 1)
theorem free_pcs {l : List (Nat × Nat)} : AV.free.freeL (l.map pcA) = true := freeL_iff.2 fun x hx => by
  obtain ⟨p, _, rfl⟩ := List.mem_map.1 hx; rfl
theorem isRun_c [Tabs Tryd.prog] (p : Nat × Nat) : Con Tryd.prog n_deflate_piece_isRun [pcA p] (boo (decide (0 < p.2))) := by
  refine Con.of' mix Tryd.func75 rfl Tryd.ntmps75 e_deflate_piece_isRun r_deflate_piece_isRun (by simp) rfl rfl ?_
  unfold s_deflate_piece_isRun
  have e : decide ((0 : Int) < (p.2 : Int)) = decide (0 < p.2) := by simp only [decide_eq_decide]; omega
  repeat (first | refine wA ?_ | refine wB ?_ | refine wC rfl ?_ | refine wD rfl ?_ | refine wE ?_ | refine wF (by omega) ?_ | ((first | refine wG ?_ | refine wH ?_ | refine wI ?_ | refine wJ ?_ | refine wK ?_ | refine wL ?_); simp (disch := omega) only [wP, wZ, undef, UInt8.reduceToNat, Nat.reduceOr, Nat.reduceAnd, Nat.reduceXor, Nat.reduceDiv, if_pos, if_neg, aStore, frz, AV.flat, ↓reduceIte, ne_eq, reduceCtorEq, Int.reduceToNat, Nat.reduceEqDiff, Nat.reduceAdd, Nat.reduceSub, Nat.reduceMul, Int.reduceAdd, Int.reduceMul, Int.reduceSub, Int.reduceLT, Int.reduceLE, Int.reduceEq, Int.reduceNe, Nat.reduceLeDiff, Nat.reduceLT, Int.reduceNeg, Nat.reducePow, Nat.reduceMod, ByteArray.size, pcA, e]))
set_option maxRecDepth 100000 in
theorem literal_c [Tabs Tryd.prog] (p : Nat × Nat) (hp : pcOk p) : Con Tryd.prog n_deflate_piece_literal [pcA p] (syA (litS p)) := by
  refine Con.of' mix Tryd.func74 rfl Tryd.ntmps74 e_deflate_piece_literal r_deflate_piece_literal (by simp) rfl rfl ?_
  unfold s_deflate_piece_literal
  have ir := isRun_c p
  obtain ⟨v, b⟩ := p
  simp only [pcOk] at hp
  by_cases c : b = 0
  · subst c
    have wi : IntKind.i64.wrap (v : Int) = (v : Int) := wrap_i64_id (by omega) (by omega)
    rw [show decide (0 < (v, 0).2) = false from rfl] at ir
    have hr : syA (litS (v, 0)) = .agg [.sc (.int .i64 (v : Int)), .sc (.int .i64 0), .sc (.int .i64 0)] := rfl
    rw [hr]
    repeat (first | refine wA ?_ | refine wB ?_ | refine wC rfl ?_ | refine wD rfl ?_ | refine wE ?_ | refine wF (by omega) ?_ | ((first | refine wG ?_ | refine wH ?_ | refine wI ?_ | refine wJ ?_ | refine wK ?_ | refine wL ?_); simp (disch := omega) only [wP, wZ, undef, UInt8.reduceToNat, Nat.reduceOr, Nat.reduceAnd, Nat.reduceXor, Nat.reduceDiv, if_pos, if_neg, aStore, frz, AV.flat, ↓reduceIte, ne_eq, reduceCtorEq, Int.reduceToNat, Nat.reduceEqDiff, Nat.reduceAdd, Nat.reduceSub, Nat.reduceMul, Int.reduceAdd, Int.reduceMul, Int.reduceSub, Int.reduceLT, Int.reduceLE, Int.reduceEq, Int.reduceNe, Nat.reduceLeDiff, Nat.reduceLT, Int.reduceNeg, Nat.reducePow, Nat.reduceMod, ByteArray.size, pcA]))
    refine goC_p _ (.inl ⟨rfl, ir⟩) ?_
    repeat (first | refine wA ?_ | refine wB ?_ | refine wC rfl ?_ | refine wD rfl ?_ | refine wE ?_ | refine wF (by omega) ?_ | ((first | refine wG ?_ | refine wH ?_ | refine wI ?_ | refine wJ ?_ | refine wK ?_ | refine wL ?_); simp (disch := omega) only [wP, wZ, undef, UInt8.reduceToNat, Nat.reduceOr, Nat.reduceAnd, Nat.reduceXor, Nat.reduceDiv, if_pos, if_neg, aStore, frz, AV.flat, ↓reduceIte, ne_eq, reduceCtorEq, Int.reduceToNat, Nat.reduceEqDiff, Nat.reduceAdd, Nat.reduceSub, Nat.reduceMul, Int.reduceAdd, Int.reduceMul, Int.reduceSub, Int.reduceLT, Int.reduceLE, Int.reduceEq, Int.reduceNe, Nat.reduceLeDiff, Nat.reduceLT, Int.reduceNeg, Nat.reducePow, Nat.reduceMod, ByteArray.size, pcA, wi]))
  · rw [show decide (0 < (v, b).2) = true from decide_eq_true (by simp only; omega)] at ir
    by_cases c2 : v = 258
    · subst c2
      have hr : syA (litS (258, b)) = .agg [.sc (.int .i64 285), .sc (.int .i64 0), .sc (.int .i64 0)] := by simp only [litS, if_neg c, if_true]; rfl
      have d2 : decide (((258 : Nat) : Int) = 258) = true := rfl
      rw [hr]
      repeat (first | refine wA ?_ | refine wB ?_ | refine wC rfl ?_ | refine wD rfl ?_ | refine wE ?_ | refine wF (by omega) ?_ | ((first | refine wG ?_ | refine wH ?_ | refine wI ?_ | refine wJ ?_ | refine wK ?_ | refine wL ?_); simp (disch := omega) only [wP, wZ, undef, UInt8.reduceToNat, Nat.reduceOr, Nat.reduceAnd, Nat.reduceXor, Nat.reduceDiv, if_pos, if_neg, aStore, frz, AV.flat, ↓reduceIte, ne_eq, reduceCtorEq, Int.reduceToNat, Nat.reduceEqDiff, Nat.reduceAdd, Nat.reduceSub, Nat.reduceMul, Int.reduceAdd, Int.reduceMul, Int.reduceSub, Int.reduceLT, Int.reduceLE, Int.reduceEq, Int.reduceNe, Nat.reduceLeDiff, Nat.reduceLT, Int.reduceNeg, Nat.reducePow, Nat.reduceMod, ByteArray.size, pcA]))
      refine goC_p _ (.inl ⟨rfl, ir⟩) ?_
      repeat (first | refine wA ?_ | refine wB ?_ | refine wC rfl ?_ | refine wD rfl ?_ | refine wE ?_ | refine wF (by omega) ?_ | ((first | refine wG ?_ | refine wH ?_ | refine wI ?_ | refine wJ ?_ | refine wK ?_ | refine wL ?_); simp (disch := omega) only [wP, wZ, undef, UInt8.reduceToNat, Nat.reduceOr, Nat.reduceAnd, Nat.reduceXor, Nat.reduceDiv, if_pos, if_neg, aStore, frz, AV.flat, ↓reduceIte, ne_eq, reduceCtorEq, Int.reduceToNat, Nat.reduceEqDiff, Nat.reduceAdd, Nat.reduceSub, Nat.reduceMul, Int.reduceAdd, Int.reduceMul, Int.reduceSub, Int.reduceLT, Int.reduceLE, Int.reduceEq, Int.reduceNe, Nat.reduceLeDiff, Nat.reduceLT, Int.reduceNeg, Nat.reducePow, Nat.reduceMod, ByteArray.size, pcA, d2]))
    · have d2 : decide ((v : Int) = 258) = false := decide_eq_false (by omega)
      have hv3 : 3 ≤ v ∧ v < 258 := by omega
      obtain ⟨w, hw⟩ : ∃ w, w = v - 3 := ⟨_, rfl⟩
      have ew : (v : Int) - 3 = (w : Int) := by omega
      have hr : syA (litS (v, b)) = .agg [.sc (.int .i64 ((symN w 2 + 257 : Nat) : Int)), .sc (.int .i64 (w : Int)), .sc (.int .i64 (symLow w 2 : Int))] := by simp only [litS, if_neg c, if_neg c2, ← hw]; rfl
      have wi : IntKind.i64.wrap (v : Int) = (v : Int) := wrap_i64_id (by omega) (by omega)
      have sy := symbolOf_c w (by omega) 2 (.inr rfl)
      have hsl : symLow w 2 ≤ 17 := by have := blen_le (v := w); rw [symLow]; omega
      have hsn : symN w 2 ≤ 1000 := by
        have : w / 2 ^ symLow w 2 ≤ w := Nat.div_le_self _ _
        rw [symN]; omega
      obtain ⟨N, hN⟩ : ∃ N, N = symN w 2 := ⟨_, rfl⟩
      obtain ⟨l, hl⟩ : ∃ l, l = symLow w 2 := ⟨_, rfl⟩
      rw [← hN, ← hl] at sy hr
      rw [← hN] at hsn
      rw [hr]
      repeat (first | refine wA ?_ | refine wB ?_ | refine wC rfl ?_ | refine wD rfl ?_ | refine wE ?_ | refine wF (by omega) ?_ | ((first | refine wG ?_ | refine wH ?_ | refine wI ?_ | refine wJ ?_ | refine wK ?_ | refine wL ?_); simp (disch := omega) only [wP, wZ, undef, UInt8.reduceToNat, Nat.reduceOr, Nat.reduceAnd, Nat.reduceXor, Nat.reduceDiv, if_pos, if_neg, aStore, frz, AV.flat, ↓reduceIte, ne_eq, reduceCtorEq, Int.reduceToNat, Nat.reduceEqDiff, Nat.reduceAdd, Nat.reduceSub, Nat.reduceMul, Int.reduceAdd, Int.reduceMul, Int.reduceSub, Int.reduceLT, Int.reduceLE, Int.reduceEq, Int.reduceNe, Nat.reduceLeDiff, Nat.reduceLT, Int.reduceNeg, Nat.reducePow, Nat.reduceMod, ByteArray.size, pcA]))
      refine goC_p _ (.inl ⟨rfl, ir⟩) ?_
      repeat (first | refine wA ?_ | refine wB ?_ | refine wC rfl ?_ | refine wD rfl ?_ | refine wE ?_ | refine wF (by omega) ?_ | ((first | refine wG ?_ | refine wH ?_ | refine wI ?_ | refine wJ ?_ | refine wK ?_ | refine wL ?_); simp (disch := omega) only [wP, wZ, undef, UInt8.reduceToNat, Nat.reduceOr, Nat.reduceAnd, Nat.reduceXor, Nat.reduceDiv, if_pos, if_neg, aStore, frz, AV.flat, ↓reduceIte, ne_eq, reduceCtorEq, Int.reduceToNat, Nat.reduceEqDiff, Nat.reduceAdd, Nat.reduceSub, Nat.reduceMul, Int.reduceAdd, Int.reduceMul, Int.reduceSub, Int.reduceLT, Int.reduceLE, Int.reduceEq, Int.reduceNe, Nat.reduceLeDiff, Nat.reduceLT, Int.reduceNeg, Nat.reducePow, Nat.reduceMod, ByteArray.size, pcA, d2, wi, ew]))
      refine goC_p _ (.inl ⟨rfl, sy⟩) ?_
      repeat (first | refine wA ?_ | refine wB ?_ | refine wC rfl ?_ | refine wD rfl ?_ | refine wE ?_ | refine wF (by omega) ?_ | ((first | refine wG ?_ | refine wH ?_ | refine wI ?_ | refine wJ ?_ | refine wK ?_ | refine wL ?_); simp (disch := omega) only [wP, wZ, undef, UInt8.reduceToNat, Nat.reduceOr, Nat.reduceAnd, Nat.reduceXor, Nat.reduceDiv, if_pos, if_neg, aStore, frz, AV.flat, ↓reduceIte, ne_eq, reduceCtorEq, Int.reduceToNat, Nat.reduceEqDiff, Nat.reduceAdd, Nat.reduceSub, Nat.reduceMul, Int.reduceAdd, Int.reduceMul, Int.reduceSub, Int.reduceLT, Int.reduceLE, Int.reduceEq, Int.reduceNe, Nat.reduceLeDiff, Nat.reduceLT, Int.reduceNeg, Nat.reducePow, Nat.reduceMod, ByteArray.size]))
set_option maxRecDepth 100000 in
theorem distance_c [Tabs Tryd.prog] (p : Nat × Nat) (h1 : 0 < p.2) (h2 : p.2 ≤ 32768) : Con Tryd.prog n_deflate_piece_distance [pcA p] (syA (dstS p)) := by
  refine Con.of' mix Tryd.func76 rfl Tryd.ntmps76 e_deflate_piece_distance r_deflate_piece_distance (by simp) rfl rfl ?_
  unfold s_deflate_piece_distance
  obtain ⟨v, b⟩ := p
  simp only at h1 h2
  obtain ⟨w, hw⟩ : ∃ w, w = b - 1 := ⟨_, rfl⟩
  have ew : (b : Int) - 1 = (w : Int) := by omega
  have wi : IntKind.i64.wrap (b : Int) = (b : Int) := wrap_i64_id (by omega) (by omega)
  have sy := symbolOf_c w (by omega) 1 (.inl rfl)
  have hr : syA (dstS (v, b)) = .agg [.sc (.int .i64 (symN w 1 : Int)), .sc (.int .i64 (w : Int)), .sc (.int .i64 (symLow w 1 : Int))] := by simp only [dstS, ← hw]; rfl
  rw [hr]
  repeat (first | refine wA ?_ | refine wB ?_ | refine wC rfl ?_ | refine wD rfl ?_ | refine wE ?_ | refine wF (by omega) ?_ | ((first | refine wG ?_ | refine wH ?_ | refine wI ?_ | refine wJ ?_ | refine wK ?_ | refine wL ?_); simp (disch := omega) only [wP, wZ, undef, UInt8.reduceToNat, Nat.reduceOr, Nat.reduceAnd, Nat.reduceXor, Nat.reduceDiv, if_pos, if_neg, aStore, frz, AV.flat, ↓reduceIte, ne_eq, reduceCtorEq, Int.reduceToNat, Nat.reduceEqDiff, Nat.reduceAdd, Nat.reduceSub, Nat.reduceMul, Int.reduceAdd, Int.reduceMul, Int.reduceSub, Int.reduceLT, Int.reduceLE, Int.reduceEq, Int.reduceNe, Nat.reduceLeDiff, Nat.reduceLT, Int.reduceNeg, Nat.reducePow, Nat.reduceMod, ByteArray.size, pcA, wi, ew]))
  refine goC_p _ (.inl ⟨rfl, sy⟩) ?_
  repeat (first | refine wA ?_ | refine wB ?_ | refine wC rfl ?_ | refine wD rfl ?_ | refine wE ?_ | refine wF (by omega) ?_ | ((first | refine wG ?_ | refine wH ?_ | refine wI ?_ | refine wJ ?_ | refine wK ?_ | refine wL ?_); simp (disch := omega) only [wP, wZ, undef, UInt8.reduceToNat, Nat.reduceOr, Nat.reduceAnd, Nat.reduceXor, Nat.reduceDiv, if_pos, if_neg, aStore, frz, AV.flat, ↓reduceIte, ne_eq, reduceCtorEq, Int.reduceToNat, Nat.reduceEqDiff, Nat.reduceAdd, Nat.reduceSub, Nat.reduceMul, Int.reduceAdd, Int.reduceMul, Int.reduceSub, Int.reduceLT, Int.reduceLE, Int.reduceEq, Int.reduceNe, Nat.reduceLeDiff, Nat.reduceLT, Int.reduceNeg, Nat.reducePow, Nat.reduceMod, ByteArray.size]))
end Go.Proofs.YtbmppmdklappiaaDoor.Aw
namespace Go.Proofs.YtbmppmdklappiaaDoor.Aw
open Go
set_option linter.unusedSimpArgs false
set_option linter.unusedVariables false
set_option linter.defProp false
def hinL (k : Nat) : List AO → List (Nat × Nat × AO)
  | [] => []
  | a :: l => (k, 0, a) :: hinL (k + 1) l
theorem hinL_nil {k : Nat} : hinL k [] = [] := rfl
theorem hinL_cons {k : Nat} {a : AO} {l : List AO} : hinL k (a :: l) = (k, 0, a) :: hinL (k + 1) l := rfl
theorem lookH_hinL : ∀ (l : List AO) (k id : Nat), lookH (hinL k l) id = if k ≤ id then (l[id - k]?).map (fun o => (0, o)) else none
  | [], k, id => by simp [hinL, lookH]
  | a :: l, k, id => by
    rw [hinL, lookH]
    by_cases c : id = k
    · rw [if_pos c, if_pos (by omega), c]; simp
    · rw [if_neg c, lookH_hinL l (k + 1) id]
      by_cases d : k ≤ id
      · rw [if_pos d, if_pos (by omega), show id - k = (id - (k + 1)) + 1 by omega]; simp
      · rw [if_neg d, if_neg (by omega)]
theorem hin0_many {a b c d : AO} {l : List AO} : hin0 (a :: b :: c :: d :: l) = lookH (hinL 1000 (a :: b :: c :: d :: l)) := by
  funext id
  rw [lookH_hinL, hin0]
theorem rho_h3 {p q r s : Nat × Nat} {hs : List (Nat × Nat)} {D c : Nat} : rho (p :: q :: r :: s :: hs) D c 1003 0 = s := by simp [rho, handed]
theorem rho_h3' {p q r s : Nat × Nat} {hs : List (Nat × Nat)} {D c g : Nat} : rho (p :: q :: r :: s :: hs) D c 1003 (g + 1) = (s.1, c + (g + 1)) := by simp [rho, handed]
theorem rho_h4 {p q r s t : Nat × Nat} {hs : List (Nat × Nat)} {D c : Nat} : rho (p :: q :: r :: s :: t :: hs) D c 1004 0 = t := by simp [rho, handed]
theorem rho_h4' {p q r s t : Nat × Nat} {hs : List (Nat × Nat)} {D c g : Nat} : rho (p :: q :: r :: s :: t :: hs) D c 1004 (g + 1) = (t.1, c + (g + 1)) := by simp [rho, handed]
theorem rho_h5 {p q r s t u : Nat × Nat} {hs : List (Nat × Nat)} {D c : Nat} : rho (p :: q :: r :: s :: t :: u :: hs) D c 1005 0 = u := by simp [rho, handed]
theorem rho_h5' {p q r s t u : Nat × Nat} {hs : List (Nat × Nat)} {D c g : Nat} : rho (p :: q :: r :: s :: t :: u :: hs) D c 1005 (g + 1) = (u.1, c + (g + 1)) := by simp [rho, handed]
theorem rho_b4 {p q r s : Nat × Nat} {D c id g : Nat} (h : 1004 ≤ id) : rho [p, q, r, s] D c id g = (D + id, c + g) := rho_new (by simp [handed]; omega)
theorem rho_b5 {p q r s t : Nat × Nat} {D c id g : Nat} (h : 1005 ≤ id) : rho [p, q, r, s, t] D c id g = (D + id, c + g) := rho_new (by simp [handed]; omega)
theorem rho_b6 {p q r s t u : Nat × Nat} {D c id g : Nat} (h : 1006 ≤ id) : rho [p, q, r, s, t, u] D c id g = (D + id, c + g) := rho_new (by simp [handed]; omega)
def hR := And.intro (And.intro @hin0_many (And.intro @hinL_nil @hinL_cons)) <| And.intro (And.intro (And.intro @rho_h3 @rho_h3') (And.intro @rho_h4 @rho_h4')) <| And.intro (And.intro @rho_h5 @rho_h5') (And.intro @rho_b4 (And.intro @rho_b5 @rho_b6))
end Go.Proofs.YtbmppmdklappiaaDoor.Aw
namespace Go.Proofs.YtbmppmdklappiaaDoor.Aw
open Go
set_option linter.unusedSimpArgs false
set_option linter.unusedVariables false
def triesM (n : Nat) : Nat := if n ≤ 16000 then n else 256
set_option maxRecDepth 100000 in
theorem newFinder_h [Tabs Tryd.prog] (nl : Bool) (b : List UInt8) (hb : b.length ≤ 20000) : HCon Tryd.prog n_deflate_newFinder [.sl nl none (b.map u8)] [] (.op 11 3 0)
    [(11, 3, .row false [.sl nl none (b.map u8), .mp 5 1, .own 9 2 none 0 b.length, .sc (.int .i64 (triesM b.length : Int))]), (5, 1, .row false [.tup []]), (9, 2, .row false ((List.replicate b.length (0 : Int)).map int))] 4 := by
  refine HCon.of' mix Tryd.func78 rfl Tryd.ntmps78 e_deflate_newFinder r_deflate_newFinder (by simp) (by simp only [AV.gl.glL, AV.gl, and_true]; exact glL_of_free _ _ free_u8) (by simp) ?_
  unfold s_deflate_newFinder
  obtain ⟨n, hn⟩ : ∃ n, n = b.length := ⟨_, rfl⟩
  have hmin : (if (32768 : Int) < (n : Int) then (32768 : Int) else (n : Int)) = (n : Int) := if_neg (by omega)
  have hz : (List.replicate n [AV.sc (.int .i64 0)]).flatten = (List.replicate n (0 : Int)).map int := by
    rw [List.map_replicate, List.flatten_replicate_singleton]
    rfl
  rw [← hn]
  by_cases c : n ≤ 16000
  · have d : decide ((n : Int) ≤ 16000) = true := decide_eq_true (by omega)
    have ht : triesM n = n := if_pos c
    rw [ht]
    repeat (first | refine wA ?_ | refine wB ?_ | refine wC rfl ?_ | refine wD rfl ?_ | refine wE ?_ | refine wF (by omega) ?_ | ((first | refine wG ?_ | refine wH ?_ | refine wI ?_ | refine wJ ?_ | refine wK ?_ | refine wL ?_); simp (disch := omega) only [wP, wZ, undef, seval, if_pos, if_neg, aStore, frz, AV.flat, ↓reduceIte, ne_eq, reduceCtorEq, ByteArray.size, List.length_map, ← hn, hmin, d, hz]))
  · have d : decide ((n : Int) ≤ 16000) = false := decide_eq_false (by omega)
    have ht : triesM n = 256 := if_neg c
    rw [ht]
    repeat (first | refine wA ?_ | refine wB ?_ | refine wC rfl ?_ | refine wD rfl ?_ | refine wE ?_ | refine wF (by omega) ?_ | ((first | refine wG ?_ | refine wH ?_ | refine wI ?_ | refine wJ ?_ | refine wK ?_ | refine wL ?_); simp (disch := omega) only [wP, wZ, undef, seval, if_pos, if_neg, aStore, frz, AV.flat, ↓reduceIte, ne_eq, reduceCtorEq, ByteArray.size, List.length_map, ← hn, hmin, d, hz]))
def pcC (l : List (Nat × Nat)) : List AV := l.flatMap fun p => [.sc (.int .u16 (p.1 : Int)), .sc (.int .u16 (p.2 : Int))]
theorem pcC_append {a b : List (Nat × Nat)} : pcC (a ++ b) = pcC a ++ pcC b := by simp [pcC]
theorem length_pcC : ∀ {l : List (Nat × Nat)}, (pcC l).length = l.length * 2
  | [] => rfl
  | p :: l => by rw [show pcC (p :: l) = [.sc (.int .u16 (p.1 : Int)), .sc (.int .u16 (p.2 : Int))] ++ pcC l from rfl, List.length_append, length_pcC]; simp; omega
theorem free_pcC {l : List (Nat × Nat)} : AV.free.freeL (pcC l) = true := freeL_iff.2 fun x hx => by
  simp only [pcC, List.mem_flatMap, List.mem_cons, List.not_mem_nil, or_false] at hx
  obtain ⟨p, _, rfl | rfl⟩ := hx <;> rfl
theorem renL_pcC {ρ : Nat → Nat → Nat × Nat} {l : List (Nat × Nat)} : ren.renL ρ (pcC l) = pcC l := renL_free ρ _ free_pcC
def litP (l : List UInt8) : List (Nat × Nat) := l.map fun c => (c.toNat, 0)
set_option maxHeartbeats 1000000 in
set_option maxRecDepth 100000 in
theorem pieces1_h [Tabs Tryd.prog] (nl : Bool) (b : List UInt8) (hb : b.length ≤ 20000) (s e : Nat) (hs : s ≤ e) (he : e ≤ b.length) (P : List (Nat × Nat)) (N : Nat) (hN : N = P.length) (hP : N ≤ 20000) :
    HCon Tryd.prog n_deflate_piecesOf_1 [.sc (.int .i64 (e : Int)), .op 1000 0 0, .op 1001 0 0, .op 1002 0 0]
      [.row false [.sl nl none (b.map u8)], .row false [.sc (.int .i64 (s : Int))], .row false [.own 1003 0 (some 2) 0 N], .row (nl0 N) (pcC P)] (.tup [])
      [(1000, 0, .row false [.sl nl none (b.map u8)]), (1001, 0, .row false [.sc (.int .i64 (s : Int))]), (1002, 0, .row false [.own 1003 30000 (some 2) 0 (N + (e - s))]), (1003, 30000, .row (nl0 (N + (e - s))) (pcC (P ++ litP ((b.take e).drop s))))] 30001 := by
  refine HCon.of' mix Tryd.func47 rfl Tryd.ntmps47 e_deflate_piecesOf_1 r_deflate_piecesOf_1 (by simp) (by simp [AV.gl, AV.gl.glL]) ?_ ?_
  · intro n cells h
    simp only [List.mem_cons, AO.row.injEq, List.not_mem_nil, or_false] at h
    obtain ⟨-, rfl⟩ | ⟨-, rfl⟩ | ⟨-, rfl⟩ | ⟨-, rfl⟩ := h
    · simp only [AV.gl.glL, AV.gl, and_true]; exact glL_of_free _ _ free_u8
    · simp [AV.gl.glL, AV.gl]
    · simp [AV.gl.glL, AV.gl]
    · exact glL_of_free _ _ free_pcC
  unfold s_deflate_piecesOf_1
  obtain ⟨seg, hseg⟩ : ∃ seg, seg = (b.take e).drop s := ⟨_, rfl⟩
  have hsl : seg.length = e - s := by rw [hseg, List.length_drop, List.length_take]; omega
  obtain ⟨M, hM⟩ : ∃ M, M = e - s := ⟨_, rfl⟩
  rw [← hM] at hsl
  have hcut : ((b.map u8).take e).drop s = seg.map u8 := by rw [hseg, List.map_drop, List.map_take]
  rw [← hseg, ← hM]
  repeat (first | refine wA ?_ | refine wB ?_ | refine wC rfl ?_ | refine wD rfl ?_ | refine wE ?_ | refine wF (by omega) ?_ | ((first | refine wG ?_ | refine wH ?_ | refine wI ?_ | refine wJ ?_ | refine wK ?_ | refine wL ?_); simp (disch := omega) only [wP, wZ, undef, seval, if_pos, if_neg, aStore, frz, AV.flat, ↓reduceIte, ne_eq, reduceCtorEq, ByteArray.size, hR, List.length_map, ← hseg, hsl]))
  refine SWp.loop (α := Nat × Nat × Nat) (fun x => mk 23 x.2.2 [(3, .op 1002 0 0), (10, .sl nl none (seg.map u8)), (11, int M), (12, int x.1)] [(1000, 0, .row false [.sl nl none (b.map u8)]), (1001, 0, .row false [.sc (.int .i64 (s : Int))]), (1002, 0, .row false [.own 1003 x.2.1 (some 2) 0 (N + x.1)]), (1003, x.2.1, .row (nl0 (N + x.1)) (pcC (P ++ litP (seg.take x.1))))])
    (fun x => x.1 ≤ M ∧ x.2.2 ≤ 1 + x.1) (fun x => M - x.1) (0, 0, 1) ⟨Nat.zero_le _, by simp⟩ (le_mk rfl ?_ ?_ ?_) ?_
  · exact Nat.le_refl _
  iterate 2 (case _ => simp (disch := omega) only [wP, wZ, undef, seval, if_pos, if_neg, aStore, frz, AV.flat, ↓reduceIte, ne_eq, reduceCtorEq, ByteArray.size, hR, litP])
  rintro ⟨k, g, gc⟩ ⟨hk, hgc⟩ -
  simp only at hk hgc
  obtain ⟨Q, hQ⟩ : ∃ Q, Q = P ++ litP (seg.take k) := ⟨_, rfl⟩
  have hQl : Q.length = N + k := by rw [hQ, List.length_append, litP, List.length_map, List.length_take]; omega
  simp only [← hQ]
  by_cases ck : k < M
  · have dk : decide ((k : Int) < (M : Int)) = true := decide_eq_true (by omega)
    have hg : (seg.map u8).getD k .junk = u8 (seg.getD k 0) := getD_u8 (by omega)
    obtain ⟨c, hc⟩ : ∃ c, c = seg.getD k 0 := ⟨_, rfl⟩
    rw [← hc] at hg
    have hwr : IntKind.u16.wrap (c.toNat : Int) = (c.toNat : Int) := by
      have := c.toNat_lt
      simp only [IntKind.wrap, IntKind.bits, IntKind.signed]
      simp
      omega
    have hst : seg.take (k + 1) = seg.take k ++ [c] := by rw [snocD (d := 0) (by omega), hc]
    have hnx : P ++ litP (seg.take (k + 1)) = Q ++ [(c.toNat, 0)] := by rw [hst, hQ]; simp [litP]
    have hpc : pcC Q ++ [AV.sc (.int .u16 (c.toNat : Int)), AV.sc (.int .u16 0)] = pcC (Q ++ [(c.toNat, 0)]) := by rw [pcC_append]; rfl
    have hpl : (pcC Q).length = (N + k) * 2 := by rw [length_pcC, hQl]
    have hcl := c.toNat_lt
    have hfl : List.flatMap (fun x => (cellsA x).getD []) [AV.agg [AV.sc (Value.int IntKind.u16 (c.toNat : Int)), AV.sc (Value.int IntKind.u16 0)]] = [AV.sc (Value.int IntKind.u16 (c.toNat : Int)), AV.sc (Value.int IntKind.u16 0)] := rfl
    have hnl : nl0 (N + (k + 1)) = false := nl0_pos (by omega)
    repeat (first | refine wA ?_ | refine wB ?_ | refine wC rfl ?_ | refine wD rfl ?_ | refine wE ?_ | refine wF (by omega) ?_ | ((first | refine wG ?_ | refine wH ?_ | refine wI ?_ | refine wJ ?_ | refine wK ?_ | refine wL ?_); simp (disch := omega) only [wP, wZ, undef, seval, if_pos, if_neg, aStore, frz, AV.flat, ↓reduceIte, ne_eq, reduceCtorEq, ByteArray.size, dk, List.length_map, hsl, hg, hwr]))
    refine ⟨⟨_, rfl, rfl⟩, ⟨fun w hw => ⟨_, List.mem_singleton.1 hw⟩, hpl.symm, by omega, by omega⟩, ?_⟩
    repeat (first | refine wA ?_ | refine wB ?_ | refine wC rfl ?_ | refine wD rfl ?_ | refine wE ?_ | refine wF (by omega) ?_ | ((first | refine wG ?_ | refine wH ?_ | refine wI ?_ | refine wJ ?_ | refine wK ?_ | refine wL ?_); simp (disch := omega) only [wP, wZ, undef, seval, if_pos, if_neg, aStore, frz, AV.flat, ↓reduceIte, ne_eq, reduceCtorEq, ByteArray.size, hfl, hpc]))
    refine At.of (k + 1, gc, gc + 1) ⟨by simp only; omega, by simp only; omega⟩ (by simp only; omega) rfl rfl (Nat.le_refl _) ?_ ?_
    iterate 2 (case _ => simp (disch := omega) only [wP, wZ, undef, seval, if_pos, if_neg, aStore, frz, AV.flat, ↓reduceIte, ne_eq, reduceCtorEq, ByteArray.size, hnx, hnl, Nat.add_assoc])
  · have dk : decide ((k : Int) < (M : Int)) = false := decide_eq_false (by omega)
    obtain rfl : k = M := by omega
    rw [List.take_of_length_le (by omega)] at hQ
    rw [← hQ]
    iterate 4 (first | refine wA ?_ | refine wB ?_ | refine wC rfl ?_ | refine wD rfl ?_ | refine wE ?_ | refine wF (by omega) ?_ | ((first | refine wG ?_ | refine wH ?_ | refine wI ?_ | refine wJ ?_ | refine wK ?_ | refine wL ?_); simp (disch := omega) only [wP, wZ, undef, seval, if_pos, if_neg, aStore, frz, AV.flat, ↓reduceIte, ne_eq, reduceCtorEq, ByteArray.size, dk]))
    refine SWp.le (le_mk (N := 23) (gc := 30000) (l := []) (h := [(1000, 0, .row false [.sl nl none (b.map u8)]), (1001, 0, .row false [.sc (.int .i64 (s : Int))]), (1002, 0, .row false [.own 1003 g (some 2) 0 (N + k)]), (1003, g, .row (nl0 (N + k)) (pcC Q))]) rfl ?_ ?_ ?_) ?_
    · simp (disch := omega) only [wP, wZ, undef, seval, if_pos, if_neg, aStore, frz, AV.flat, ↓reduceIte, ne_eq, reduceCtorEq, ByteArray.size]
      omega
    iterate 2 (case _ => simp (disch := omega) only [wP, wZ, undef, seval, if_pos, if_neg, aStore, frz, AV.flat, ↓reduceIte, ne_eq, reduceCtorEq, ByteArray.size])
    refine SWp.renew 1003 g (o := .row (nl0 (N + k)) (pcC Q)) (by simp (disch := omega) only [wP, wZ, undef, seval, if_pos, if_neg, aStore, frz, AV.flat, ↓reduceIte, ne_eq, reduceCtorEq, ByteArray.size]) ?_
    refine SWp.le (le_mk (N := 23) (gc := 30001) (l := []) (h := [(1000, 0, .row false [.sl nl none (b.map u8)]), (1001, 0, .row false [.sc (.int .i64 (s : Int))]), (1002, 0, .row false [.own 1003 30000 (some 2) 0 (N + k)]), (1003, 30000, .row (nl0 (N + k)) (pcC Q))]) rfl ?_ ?_ ?_) ?_
    iterate 3 (case _ => simp (disch := omega) only [wP, wZ, undef, seval, if_pos, if_neg, aStore, frz, AV.flat, ↓reduceIte, ne_eq, reduceCtorEq, ByteArray.size, rgn_eq, rgH_at, renL_pcC, iR])
    repeat (first | refine wA ?_ | refine wB ?_ | refine wC rfl ?_ | refine wD rfl ?_ | refine wE ?_ | refine wF (by omega) ?_ | ((first | refine wG ?_ | refine wH ?_ | refine wI ?_ | refine wJ ?_ | refine wK ?_ | refine wL ?_); simp (disch := omega) only [wP, wZ, undef, seval, if_pos, if_neg, aStore, frz, AV.flat, ↓reduceIte, ne_eq, reduceCtorEq, ByteArray.size, iR, hR, renL_pcC]))
end Go.Proofs.YtbmppmdklappiaaDoor.Aw
namespace Go.Proofs.YtbmppmdklappiaaDoor.Aw
open Go
set_option linter.unusedSimpArgs false
set_option linter.unusedVariables false
abbrev p2I (nl : Bool) (b : List UInt8) (s : Nat) (P : List (Nat × Nat)) : List AO := [.row false [.clo n_deflate_piecesOf_1 [.op 1003 0 0, .op 1002 0 0, .op 1001 0 0]], .row false [.own 1004 0 (some 2) 0 P.length], .row false [.sc (.int .i64 (s : Int))], .row false [.sl nl none (b.map u8)], .row (nl0 P.length) (pcC P)]
abbrev p2O (nl : Bool) (b : List UInt8) (s : Nat) (P : List (Nat × Nat)) (m : Nat) : List (Nat × Nat × AO) := [(1000, 0, .row false [.clo n_deflate_piecesOf_1 [.op 1003 0 0, .op 1002 0 0, .op 1001 0 0]]), (1001, 0, .row false [.own 1004 m (some 2) 0 P.length]), (1002, 0, .row false [.sc (.int .i64 (s : Int))]), (1003, 0, .row false [.sl nl none (b.map u8)]), (1004, m, .row (nl0 P.length) (pcC P))]
def runP (b : List UInt8) (P : List (Nat × Nat)) (s f l k : Nat) : List (Nat × Nat) := P ++ litP ((b.take f).drop s) ++ [(l, k)]
set_option maxHeartbeats 1000000 in
set_option maxRecDepth 100000 in
theorem pieces2_h [Tabs Tryd.prog] (nl : Bool) (b : List UInt8) (hb : b.length ≤ 20000) (s f l k : Nat) (hs : s ≤ f) (hf : f ≤ b.length) (P : List (Nat × Nat)) (hP : P.length ≤ s) (hl : l ≤ 258) (hk : k ≤ 32768) :
    HCon Tryd.prog n_deflate_piecesOf_2 [.sc (.int .i64 (f : Int)), .sc (.int .i64 (l : Int)), .sc (.int .i64 (k : Int)), .op 1000 0 0, .op 1001 0 0, .op 1002 0 0]
      (p2I nl b s P) (.tup []) (p2O nl b (f + l) (runP b P s f l k) 30002) 30003 := by
  refine HCon.of' mix Tryd.func49 rfl Tryd.ntmps49 e_deflate_piecesOf_2 r_deflate_piecesOf_2 (by simp) (by simp [AV.gl, AV.gl.glL]) ?_ ?_
  · intro n cells h
    simp only [List.mem_cons, AO.row.injEq, List.not_mem_nil, or_false] at h
    obtain ⟨-, rfl⟩ | ⟨-, rfl⟩ | ⟨-, rfl⟩ | ⟨-, rfl⟩ | ⟨-, rfl⟩ := h
    · simp [AV.gl.glL, AV.gl]
    · simp [AV.gl.glL, AV.gl]
    · simp [AV.gl.glL, AV.gl]
    · simp only [AV.gl.glL, AV.gl, and_true]; exact glL_of_free _ _ free_u8
    · exact glL_of_free _ _ free_pcC
  unfold s_deflate_piecesOf_2
  obtain ⟨N, hN⟩ : ∃ N, N = P.length := ⟨_, rfl⟩
  have p1 := pieces1_h nl b hb s f hs hf P N hN (by omega)
  obtain ⟨Q, hQ⟩ : ∃ Q, Q = P ++ litP ((b.take f).drop s) := ⟨_, rfl⟩
  have hQl : Q.length = N + (f - s) := by rw [hQ, List.length_append, litP, List.length_map, List.length_drop, List.length_take]; omega
  have hR' : runP b P s f l k = Q ++ [(l, k)] := by rw [runP, hQ]
  have hRl : (Q ++ [(l, k)]).length = N + (f - s) + 1 := by rw [List.length_append, hQl]; rfl
  have hw1 : IntKind.u16.wrap (l : Int) = (l : Int) := by
    simp only [IntKind.wrap, IntKind.bits, IntKind.signed]
    simp
    omega
  have hw2 : IntKind.u16.wrap (k : Int) = (k : Int) := by
    simp only [IntKind.wrap, IntKind.bits, IntKind.signed]
    simp
    omega
  obtain ⟨M, hM⟩ : ∃ M, M = N + (f - s) := ⟨_, rfl⟩
  have hM2 : M ≤ 20000 := by omega
  rw [← hM] at hQl hRl p1
  rw [← hQ] at p1
  have hpl : (pcC Q).length = M * 2 := by rw [length_pcC, hQl]
  have hpc : pcC Q ++ [AV.sc (.int .u16 (l : Int)), AV.sc (.int .u16 (k : Int))] = pcC (Q ++ [(l, k)]) := by rw [pcC_append]; rfl
  have hfl : List.flatMap (fun x => (cellsA x).getD []) [AV.agg [AV.sc (Value.int IntKind.u16 (l : Int)), AV.sc (Value.int IntKind.u16 (k : Int))]] = [AV.sc (Value.int IntKind.u16 (l : Int)), AV.sc (Value.int IntKind.u16 (k : Int))] := rfl
  have hnl : nl0 (M + 1) = false := nl0_pos (by omega)
  rw [hR']
  simp only [p2I, p2O, hRl, ← hN]
  repeat (first | refine wA ?_ | refine wB ?_ | refine wC rfl ?_ | refine wD rfl ?_ | refine wE ?_ | refine wF (by omega) ?_ | ((first | refine wG ?_ | refine wH ?_ | refine wI ?_ | refine wJ ?_ | refine wK ?_ | refine wL ?_); simp (disch := omega) only [wP, wZ, undef, seval, if_pos, if_neg, aStore, frz, AV.flat, ↓reduceIte, ne_eq, reduceCtorEq, ByteArray.size, hR]))
  refine goV_clo rfl ?_
  refine goC_h [(1003, 0), (1002, 0), (1001, 0), (1004, 0)] 2000 p1 (by simp) (by simp) ?_ ?_ ?_
  iterate 2 (case _ => simp (disch := omega) only [wP, wZ, undef, seval, if_pos, if_neg, aStore, frz, AV.flat, ↓reduceIte, ne_eq, reduceCtorEq, ByteArray.size, hR, ren_tup, renL_pcC])
  repeat (first | refine wA ?_ | refine wB ?_ | refine wC rfl ?_ | refine wD rfl ?_ | refine wE ?_ | refine wF (by omega) ?_ | ((first | refine wG ?_ | refine wH ?_ | refine wI ?_ | refine wJ ?_ | refine wK ?_ | refine wL ?_); simp (disch := omega) only [wP, wZ, undef, seval, if_pos, if_neg, aStore, frz, AV.flat, ↓reduceIte, ne_eq, reduceCtorEq, ByteArray.size, hR, ren_tup, renL_pcC, hw1, hw2]))
  refine ⟨⟨_, rfl, rfl⟩, ⟨fun w hw => ⟨_, List.mem_singleton.1 hw⟩, hpl.symm, by omega, by omega⟩, ?_⟩
  repeat (first | refine wA ?_ | refine wB ?_ | refine wC rfl ?_ | refine wD rfl ?_ | refine wE ?_ | refine wF (by omega) ?_ | ((first | refine wG ?_ | refine wH ?_ | refine wI ?_ | refine wJ ?_ | refine wK ?_ | refine wL ?_); simp (disch := omega) only [wP, wZ, undef, seval, if_pos, if_neg, aStore, frz, AV.flat, ↓reduceIte, ne_eq, reduceCtorEq, ByteArray.size, hR, hfl, hpc, hnl, renL_pcC, iR]))
  try omega
end Go.Proofs.YtbmppmdklappiaaDoor.Aw
namespace Go.Proofs.YtbmppmdklappiaaDoor.Aw
open Go
set_option linter.unusedSimpArgs false
set_option linter.unusedVariables false
def addN (b : List UInt8) : Nat → Nat → List (K3 × Nat) × List Int → List (K3 × Nat) × List Int
  | 0, _, x => x
  | j + 1, p, x => addN b j (p + 1) (addM b x.1 p, addA b x.1 x.2 p)
theorem addN_inv {b : List UInt8} : ∀ {j p : Nat} {x : List (K3 × Nat) × List Int}, FInv b x.1 x.2 p → p + j ≤ b.length → FInv b (addN b j p x).1 (addN b j p x).2 (p + j)
  | 0, _, _, h, _ => h
  | j + 1, p, x, h, hp => by
    rw [addN, show p + (j + 1) = (p + 1) + j by omega]
    exact addN_inv (h.add (by omega)) (by omega)
def runM (b : List UInt8) (m : List (K3 × Nat)) (A : List Int) (p : Nat) : Nat × Nat := longM b A p (min 258 (b.length - p)) (triesM b.length) (lastM b m (p : Int)) 0 0
def eachM (b : List UInt8) : Nat → Nat → List (K3 × Nat) × List Int → List (Nat × Nat) → Nat → List (Nat × Nat) × Nat
  | 0, _, _, P, s => (P, s)
  | n + 1, p, x, P, s => if b.length ≤ p then (P, s) else
    if 0 < (runM b x.1 x.2 p).1 then eachM b n (p + (runM b x.1 x.2 p).1) (addN b (runM b x.1 x.2 p).1 p x) (runP b P s p (runM b x.1 x.2 p).1 (runM b x.1 x.2 p).2) (p + (runM b x.1 x.2 p).1)
    else eachM b n (p + 1) (addN b 1 p x) P s
theorem runM_ok {b : List UInt8} {m : List (K3 × Nat)} {A : List Int} {p : Nat} (h : FInv b m A p) (hp : p < b.length) : runOk b p (min 258 (b.length - p)) (runM b m A p) := by
  refine longM_ok h (by omega) (fun hs => ?_) _ _ _ _ (lastM_ok h) (.inl rfl)
  unfold startM at hs
  split at hs
  · simp at hs
  · omega
theorem length_runP {b : List UInt8} {P : List (Nat × Nat)} {s f l k : Nat} (hs : s ≤ f) (hf : f ≤ b.length) : (runP b P s f l k).length = P.length + (f - s) + 1 := by
  rw [runP, List.length_append, List.length_append, litP, List.length_map, List.length_drop, List.length_take, List.length_singleton]; omega
def KE : Nat := 8999999999
theorem KE_eq : KE = 8999999999 := rfl
theorem triesM_le {n : Nat} (h : n ≤ 20000) : triesM n ≤ 20000 := by unfold triesM; split <;> omega
set_option maxHeartbeats 2000000 in
set_option maxRecDepth 100000 in
theorem eachRun_h [Tabs Tryd.prog] (nl : Bool) (b : List UInt8) (hb : b.length ≤ 20000) (R : List (Nat × Nat) × Nat) (hR0 : R = eachM b b.length 0 ([], List.replicate b.length 0) [] 0) :
    HCon Tryd.prog n_deflate_eachRun [.sl nl none (b.map u8), .clo n_deflate_piecesOf_2 [.op 1000 0 0, .op 1001 0 0, .op 1002 0 0]] (p2I nl b 0 []) (.tup []) (p2O nl b R.2 R.1 (KE + 1)) (KE + 2) := by
  refine HCon.of' mix Tryd.func48 rfl Tryd.ntmps48 e_deflate_eachRun r_deflate_eachRun (by simp) ?_ ?_ ?_
  · simp only [AV.gl.glL, AV.gl, and_true]
    exact ⟨glL_of_free _ _ free_u8, by simp⟩
  · intro n cells h
    simp only [List.mem_cons, AO.row.injEq, List.not_mem_nil, or_false] at h
    obtain ⟨-, rfl⟩ | ⟨-, rfl⟩ | ⟨-, rfl⟩ | ⟨-, rfl⟩ | ⟨-, rfl⟩ := h
    · simp [AV.gl.glL, AV.gl]
    · simp [AV.gl.glL, AV.gl]
    · simp [AV.gl.glL, AV.gl]
    · simp only [AV.gl.glL, AV.gl, and_true]; exact glL_of_free _ _ free_u8
    · exact glL_of_free _ _ free_pcC
  unfold s_deflate_eachRun
  have nf := newFinder_h nl b hb
  repeat (first | refine wA ?_ | refine wB ?_ | refine wC rfl ?_ | refine wD rfl ?_ | refine wE ?_ | refine wF (by omega) ?_ | ((first | refine wG ?_ | refine wH ?_ | refine wI ?_ | refine wJ ?_ | refine wK ?_ | refine wL ?_); simp (disch := omega) only [wP, wZ, undef, seval, if_pos, if_neg, aStore, frz, AV.flat, ↓reduceIte, ne_eq, reduceCtorEq, ByteArray.size, hR]))
  refine goC_h [] 2000 nf (by simp) (by simp) ?_ ?_ ?_
  iterate 2 (case _ => simp (disch := omega) only [wP, wZ, undef, seval, if_pos, if_neg, aStore, frz, AV.flat, ↓reduceIte, ne_eq, reduceCtorEq, ByteArray.size, hR])
  repeat (first | refine wA ?_ | refine wB ?_ | refine wC rfl ?_ | refine wD rfl ?_ | refine wE ?_ | refine wF (by omega) ?_ | ((first | refine wG ?_ | refine wH ?_ | refine wI ?_ | refine wJ ?_ | refine wK ?_ | refine wL ?_); simp (disch := omega) only [wP, wZ, undef, seval, if_pos, if_neg, aStore, frz, AV.flat, ↓reduceIte, ne_eq, reduceCtorEq, ByteArray.size, hR, ren_tup, iR]))
  obtain ⟨t, ht⟩ : ∃ t, t = triesM b.length := ⟨_, rfl⟩
  have htl : t ≤ 20000 := by rw [ht]; exact triesM_le hb
  refine SWp.loop (α := Nat × (List (K3 × Nat) × List Int) × List (Nat × Nat) × Nat × Nat × Nat) (fun x => mk 37 x.2.2.2.2.2 [(0, .sl nl none (b.map u8)), (1, .clo n_deflate_piecesOf_2 [.op 1000 0 0, .op 1001 0 0, .op 1002 0 0]), (4, .op 2011 4 0), (5, int x.1)] (p2O nl b x.2.2.2.1 x.2.2.1 x.2.2.2.2.1 ++ [(2011, 4, .row false [.sl nl none (b.map u8), .mp 2005 2, .own 2009 3 none 0 x.2.1.2.length, .sc (.int .i64 (t : Int))]), (2005, 2, .row false [.tup (x.2.1.1.map enA)]), (2009, 3, .row false (x.2.1.2.map int))]))
    (fun x => x.1 ≤ b.length ∧ FInv b x.2.1.1 x.2.1.2 x.1 ∧ x.2.2.1.length ≤ x.2.2.2.1 ∧ x.2.2.2.1 ≤ x.1 ∧ (∃ n, b.length ≤ x.1 + n ∧ R = eachM b n x.1 x.2.1 x.2.2.1 x.2.2.2.1) ∧ x.2.2.2.2.2 ≤ 10 + 200000 * x.1) (fun x => b.length - x.1) (0, ([], List.replicate b.length 0), [], 0, 0, 5) ⟨Nat.zero_le _, FInv.start, Nat.zero_le _, Nat.zero_le _, ⟨b.length, by simp, hR0⟩, by simp⟩ (le_mk rfl ?_ ?_ ?_) ?_
  iterate 3 (case _ => simp (disch := omega) only [wP, wZ, undef, seval, if_pos, if_neg, aStore, frz, AV.flat, ↓reduceIte, ne_eq, reduceCtorEq, ByteArray.size, hR, List.length_replicate, ← ht])
  rintro ⟨p, ⟨m, A⟩, P, s, g, gc⟩ ⟨hp, hF, hPs, hsp, ⟨n0, hn0, hRe⟩, hgc⟩ -
  simp only at hp hF hPs hsp hn0 hRe hgc
  obtain ⟨N, hN⟩ : ∃ N, N = P.length := ⟨_, rfl⟩
  have hAl := hF.len
  obtain ⟨e, he⟩ : ∃ e, e = m.map enA := ⟨_, rfl⟩
  have hre : ∀ ρ, ren.renL ρ e = e := fun ρ => by rw [he]; exact renL_en
  by_cases cp : p < b.length
  · have dp : decide ((p : Int) < (b.length : Int)) = true := decide_eq_true (by omega)
    obtain ⟨r, hr⟩ : ∃ r, r = runM b m A p := ⟨_, rfl⟩
    have hro : runOk b p (min 258 (b.length - p)) r := by rw [hr]; exact runM_ok hF cp
    have lo := fd_longest_h nl b hb t htl m A p cp hF r (by rw [hr, runM, ht])
    obtain ⟨n, hn⟩ : ∃ n, n0 = n + 1 := ⟨n0 - 1, by omega⟩
    rw [hn, eachM, if_neg (by omega)] at hRe
    simp only [← hr] at hRe
    simp only [p2O, List.cons_append, List.nil_append, fdI, fdO, fdR, ← he, ← hN] at lo ⊢
    repeat (first | refine wA ?_ | refine wB ?_ | refine wC rfl ?_ | refine wD rfl ?_ | refine wE ?_ | refine wF (by omega) ?_ | ((first | refine wG ?_ | refine wH ?_ | refine wI ?_ | refine wJ ?_ | refine wK ?_ | refine wL ?_); simp (disch := omega) only [wP, wZ, undef, seval, if_pos, if_neg, aStore, frz, AV.flat, ↓reduceIte, ne_eq, reduceCtorEq, ByteArray.size, dp, List.length_map]))
    refine goC_h [(2011, 4), (2005, 2), (2009, 3)] 3000 lo (by simp) (by simp) ?_ ?_ ?_
    iterate 2 (case _ => simp (disch := omega) only [wP, wZ, undef, seval, if_pos, if_neg, aStore, frz, AV.flat, ↓reduceIte, ne_eq, reduceCtorEq, ByteArray.size, iR, hre, ren_tup])
    iterate 2 (first | refine wA ?_ | refine wB ?_ | refine wC rfl ?_ | refine wD rfl ?_ | refine wE ?_ | refine wF (by omega) ?_ | ((first | refine wG ?_ | refine wH ?_ | refine wI ?_ | refine wJ ?_ | refine wK ?_ | refine wL ?_); simp (disch := omega) only [wP, wZ, undef, seval, if_pos, if_neg, aStore, frz, AV.flat, ↓reduceIte, ne_eq, reduceCtorEq, ByteArray.size, iR, hre, ren_tup]))
    obtain ⟨l, k⟩ := r
    simp only at hRe hro ⊢
    obtain ⟨J, hJ⟩ : ∃ J, J = max l 1 := ⟨_, rfl⟩
    have hmx : (if (l : Int) < 1 then (1 : Int) else (l : Int)) = (J : Int) := by split <;> omega
    have hlk : l = 0 ∨ (3 ≤ l ∧ p + l ≤ b.length ∧ l ≤ 258 ∧ 1 ≤ k ∧ k ≤ p) := by
      rcases hro with h | ⟨h1, h2, h3, h4, _⟩
      · exact .inl h
      · simp only at h1 h2 h3 h4; exact .inr (by omega)
    have hJb : p + J ≤ b.length := by omega
    obtain ⟨P2, hP2⟩ : ∃ P2, P2 = if 0 < l then runP b P s p l k else P := ⟨_, rfl⟩
    obtain ⟨s2, hs2⟩ : ∃ s2, s2 = if 0 < l then p + l else s := ⟨_, rfl⟩
    have hRe2 : R = eachM b n (p + J) (addN b J p (m, A)) P2 s2 := by
      by_cases c : 0 < l
      · rw [if_pos c] at hRe hP2 hs2
        rw [hRe, hP2, hs2, show J = l by omega]
      · rw [if_neg c] at hRe hP2 hs2
        rw [hRe, hP2, hs2, show J = 1 by omega]
    have hPs2 : P2.length ≤ s2 := by
      by_cases c : 0 < l
      · rw [if_pos c] at hP2 hs2
        rw [hP2, hs2, length_runP hsp hp]; omega
      · rw [if_neg c] at hP2 hs2
        rw [hP2, hs2]; exact hPs
    have hss2 : s2 ≤ p + J := by rw [hs2]; split <;> omega
    obtain ⟨g2, hg2⟩ : ∃ g2, g2 = if 0 < l then gc + 100000 + 30002 else g := ⟨_, rfl⟩
    refine SWp.toT (F := mk 37 (gc + 130003) [(0, .sl nl none (b.map u8)), (1, .clo n_deflate_piecesOf_2 [.op 1000 0 0, .op 1001 0 0, .op 1002 0 0]), (4, .op 2011 4 0), (5, int p), (6, int l)] (p2O nl b s2 P2 g2 ++ [(2011, 4, .row false [.sl nl none (b.map u8), .mp 2005 2, .own 2009 3 none 0 A.length, .sc (.int .i64 (t : Int))]), (2005, 2, .row false [.tup e]), (2009, 3, .row false (A.map int))])) ?_ ?_
    · by_cases c : 0 < l
      · have dl : decide ((0 : Int) < (l : Int)) = true := decide_eq_true (by omega)
        rw [if_pos c] at hP2 hs2
        rw [if_pos c] at hg2
        rw [hg2]
        have p2 := pieces2_h nl b hb s p l k hsp hp P hPs (by omega) (by omega)
        rw [← hP2, ← hs2] at p2
        simp only [p2I, p2O, ← hN] at p2 ⊢
        repeat (first | refine wA ?_ | refine wB ?_ | refine wC rfl ?_ | refine wD rfl ?_ | refine wE ?_ | refine wF (by omega) ?_ | ((first | refine wG ?_ | refine wH ?_ | refine wI ?_ | refine wJ ?_ | refine wK ?_ | refine wL ?_); simp (disch := omega) only [wP, wZ, undef, seval, if_pos, if_neg, aStore, frz, AV.flat, ↓reduceIte, ne_eq, reduceCtorEq, ByteArray.size, dl]))
        refine goV_clo rfl ?_
        refine goC_h [(1000, 0), (1001, 0), (1002, 0), (1003, 0), (1004, g)] 3000 p2 (by simp) (by simp) ?_ ?_ ?_
        iterate 2 (case _ => simp (disch := omega) only [wP, wZ, undef, seval, if_pos, if_neg, aStore, frz, AV.flat, ↓reduceIte, ne_eq, reduceCtorEq, ByteArray.size, hR, ren_tup, renL_pcC])
        repeat (first | refine wA ?_ | refine wB ?_ | refine wC rfl ?_ | refine wD rfl ?_ | refine wE ?_ | refine wF (by omega) ?_ | ((first | refine wG ?_ | refine wH ?_ | refine wI ?_ | refine wJ ?_ | refine wK ?_ | refine wL ?_); simp (disch := omega) only [wP, wZ, undef, seval, if_pos, if_neg, aStore, frz, AV.flat, ↓reduceIte, ne_eq, reduceCtorEq, ByteArray.size, hR, ren_tup, renL_pcC]))
        refine le_mk rfl ?_ ?_ ?_
        · show gc + 100000 + 30003 ≤ gc + 130003
          omega
        iterate 2 (case _ => simp (disch := omega) only [wP, wZ, undef, seval, if_pos, if_neg, aStore, frz, AV.flat, ↓reduceIte, ne_eq, reduceCtorEq, ByteArray.size])
      · have dl : decide ((0 : Int) < (l : Int)) = false := decide_eq_false (by omega)
        rw [if_neg c] at hP2 hs2
        rw [if_neg c] at hg2
        rw [hP2, hs2, hg2]
        simp only [p2O, ← hN]
        repeat (first | refine wA ?_ | refine wB ?_ | refine wC rfl ?_ | refine wD rfl ?_ | refine wE ?_ | refine wF (by omega) ?_ | ((first | refine wG ?_ | refine wH ?_ | refine wI ?_ | refine wJ ?_ | refine wK ?_ | refine wL ?_); simp (disch := omega) only [wP, wZ, undef, seval, if_pos, if_neg, aStore, frz, AV.flat, ↓reduceIte, ne_eq, reduceCtorEq, ByteArray.size, dl]))
        refine SWp.skip (le_mk rfl ?_ ?_ ?_)
        · show gc + 100000 ≤ gc + 130003
          omega
        iterate 2 (case _ => simp (disch := omega) only [wP, wZ, undef, seval, if_pos, if_neg, aStore, frz, AV.flat, ↓reduceIte, ne_eq, reduceCtorEq, ByteArray.size])
    · repeat (first | refine wA ?_ | refine wB ?_ | refine wC rfl ?_ | refine wD rfl ?_ | refine wE ?_ | refine wF (by omega) ?_ | ((first | refine wG ?_ | refine wH ?_ | refine wI ?_ | refine wJ ?_ | refine wK ?_ | refine wL ?_); simp (disch := omega) only [wP, wZ, undef, seval, if_pos, if_neg, aStore, frz, AV.flat, ↓reduceIte, ne_eq, reduceCtorEq, ByteArray.size, hmx]))
      refine SWp.loop (α := Nat × Nat × (List (K3 × Nat) × List Int) × Nat) (fun x => mk 37 x.2.2.2 [(0, .sl nl none (b.map u8)), (1, .clo n_deflate_piecesOf_2 [.op 1000 0 0, .op 1001 0 0, .op 1002 0 0]), (4, .op 2011 4 0), (5, int x.2.1), (28, int J), (29, int x.1)] (p2O nl b s2 P2 g2 ++ [(2011, 4, .row false [.sl nl none (b.map u8), .mp 2005 2, .own 2009 3 none 0 x.2.2.1.2.length, .sc (.int .i64 (t : Int))]), (2005, 2, .row false [.tup (x.2.2.1.1.map enA)]), (2009, 3, .row false (x.2.2.1.2.map int))]))
        (fun x => x.1 ≤ J ∧ x.2.1 = p + x.1 ∧ FInv b x.2.2.1.1 x.2.2.1.2 x.2.1 ∧ addN b J p (m, A) = addN b (J - x.1) x.2.1 x.2.2.1 ∧ x.2.2.2 ≤ 200000 * p + 130020 + 20 * x.1) (fun x => J - x.1) (0, p, (m, A), gc + 130003) ⟨Nat.zero_le _, rfl, hF, rfl, by simp only; omega⟩ (le_mk rfl ?_ ?_ ?_) ?_
      · exact Nat.le_refl _
      iterate 2 (case _ => simp (disch := omega) only [wP, wZ, undef, seval, if_pos, if_neg, aStore, frz, AV.flat, ↓reduceIte, ne_eq, reduceCtorEq, ByteArray.size, ← he])
      rintro ⟨j, q, ⟨m2, A2⟩, gd⟩ ⟨hj, hq, hF2, haN, hgd⟩ -
      simp only at hj hq hF2 haN hgd
      by_cases cj : j < J
      · have dj : decide ((j : Int) < (J : Int)) = true := decide_eq_true (by omega)
        have hql : q < b.length := by omega
        have hll : -32769 ≤ lastM b m2 (q : Int) ∧ lastM b m2 (q : Int) ≤ 20000 := by
          rcases lastM_ok hF2 with h | ⟨h1, h2, _⟩ <;> omega
        have ad := fd_add_h nl b hb t m2 A2 hF2.len q hql hll
        obtain ⟨i, hi⟩ : ∃ i, J - j = i + 1 := ⟨J - j - 1, by omega⟩
        rw [hi, addN] at haN
        simp only at haN
        have hF3 := hF2.add hql
        obtain ⟨m3, hm3⟩ : ∃ m3, m3 = addM b m2 q := ⟨_, rfl⟩
        obtain ⟨A3, hA3⟩ : ∃ A3, A3 = addA b m2 A2 q := ⟨_, rfl⟩
        rw [← hm3, ← hA3] at hF3 haN ad
        simp only [fdI, fdO, fdR] at ad
        repeat (first | refine wA ?_ | refine wB ?_ | refine wC rfl ?_ | refine wD rfl ?_ | refine wE ?_ | refine wF (by omega) ?_ | ((first | refine wG ?_ | refine wH ?_ | refine wI ?_ | refine wJ ?_ | refine wK ?_ | refine wL ?_); simp (disch := omega) only [wP, wZ, undef, seval, if_pos, if_neg, aStore, frz, AV.flat, ↓reduceIte, ne_eq, reduceCtorEq, ByteArray.size, dj]))
        refine goC_h [(2011, 4), (2005, 2), (2009, 3)] 3000 ad (by simp) (by simp) ?_ ?_ ?_
        iterate 2 (case _ => simp (disch := omega) only [wP, wZ, undef, seval, if_pos, if_neg, aStore, frz, AV.flat, ↓reduceIte, ne_eq, reduceCtorEq, ByteArray.size, iR, renL_en, ren_tup])
        repeat (first | refine wA ?_ | refine wB ?_ | refine wC rfl ?_ | refine wD rfl ?_ | refine wE ?_ | refine wF (by omega) ?_ | ((first | refine wG ?_ | refine wH ?_ | refine wI ?_ | refine wJ ?_ | refine wK ?_ | refine wL ?_); simp (disch := omega) only [wP, wZ, undef, seval, if_pos, if_neg, aStore, frz, AV.flat, ↓reduceIte, ne_eq, reduceCtorEq, ByteArray.size, iR, renL_en, ren_tup]))
        refine At.of (j + 1, q + 1, (m3, A3), gd + 14) ⟨by simp only; omega, by simp only; omega, hF3, by simp only; rw [show J - (j + 1) = i by omega]; exact haN, by simp only; omega⟩ (by simp only; omega) rfl rfl (Nat.le_refl _) ?_ ?_
        iterate 2 (case _ => simp (disch := omega) only [wP, wZ, undef, seval, if_pos, if_neg, aStore, frz, AV.flat, ↓reduceIte, ne_eq, reduceCtorEq, ByteArray.size])
      · have dj : decide ((j : Int) < (J : Int)) = false := decide_eq_false (by omega)
        obtain rfl : j = J := by omega
        rw [Nat.sub_self, addN] at haN
        rw [haN] at hRe2
        repeat (first | refine wA ?_ | refine wB ?_ | refine wC rfl ?_ | refine wD rfl ?_ | refine wE ?_ | refine wF (by omega) ?_ | ((first | refine wG ?_ | refine wH ?_ | refine wI ?_ | refine wJ ?_ | refine wK ?_ | refine wL ?_); simp (disch := omega) only [wP, wZ, undef, seval, if_pos, if_neg, aStore, frz, AV.flat, ↓reduceIte, ne_eq, reduceCtorEq, ByteArray.size, dj]))
        refine At.of (q, (m2, A2), P2, s2, g2, gd) ⟨by simp only; omega, hF2, hPs2, by simp only; omega, ⟨n, by simp only; omega, by rw [hq]; exact hRe2⟩, by simp only; omega⟩ (by simp only; omega) rfl rfl (Nat.le_refl _) ?_ ?_
        iterate 2 (case _ => simp (disch := omega) only [wP, wZ, undef, seval, if_pos, if_neg, aStore, frz, AV.flat, ↓reduceIte, ne_eq, reduceCtorEq, ByteArray.size])
  · have dp : decide ((p : Int) < (b.length : Int)) = false := decide_eq_false (by omega)
    obtain rfl : p = b.length := by omega
    have hRs : eachM b n0 b.length (m, A) P s = (P, s) := by
      cases n0 with
      | zero => rfl
      | succ n => rw [eachM, if_pos (Nat.le_refl _)]
    rw [hRs] at hRe
    subst hRe
    simp only [p2O, List.cons_append, List.nil_append, ← hN]
    iterate 4 (first | refine wA ?_ | refine wB ?_ | refine wC rfl ?_ | refine wD rfl ?_ | refine wE ?_ | refine wF (by omega) ?_ | ((first | refine wG ?_ | refine wH ?_ | refine wI ?_ | refine wJ ?_ | refine wK ?_ | refine wL ?_); simp (disch := omega) only [wP, wZ, undef, seval, if_pos, if_neg, aStore, frz, AV.flat, ↓reduceIte, ne_eq, reduceCtorEq, ByteArray.size, dp, List.length_map]))
    refine SWp.le (le_mk (N := 37) (gc := KE + 1) (l := []) (h := [(1000, 0, .row false [.clo n_deflate_piecesOf_1 [.op 1003 0 0, .op 1002 0 0, .op 1001 0 0]]), (1001, 0, .row false [.own 1004 g (some 2) 0 N]), (1002, 0, .row false [.sc (.int .i64 (s : Int))]), (1003, 0, .row false [.sl nl none (b.map u8)]), (1004, g, .row (nl0 N) (pcC P))]) rfl ?_ ?_ ?_) ?_
    · have := KE_eq
      simp (disch := omega) only [wP, wZ, undef, seval, if_pos, if_neg, aStore, frz, AV.flat, ↓reduceIte, ne_eq, reduceCtorEq, ByteArray.size]
      omega
    iterate 2 (case _ => simp (disch := omega) only [wP, wZ, undef, seval, if_pos, if_neg, aStore, frz, AV.flat, ↓reduceIte, ne_eq, reduceCtorEq, ByteArray.size])
    refine SWp.renew 1004 g (o := .row (nl0 N) (pcC P)) (by simp (disch := omega) only [wP, wZ, undef, seval, if_pos, if_neg, aStore, frz, AV.flat, ↓reduceIte, ne_eq, reduceCtorEq, ByteArray.size]) ?_
    refine SWp.le (le_mk (N := 37) (gc := KE + 2) (l := []) (h := [(1000, 0, .row false [.clo n_deflate_piecesOf_1 [.op 1003 0 0, .op 1002 0 0, .op 1001 0 0]]), (1001, 0, .row false [.own 1004 (KE + 1) (some 2) 0 N]), (1002, 0, .row false [.sc (.int .i64 (s : Int))]), (1003, 0, .row false [.sl nl none (b.map u8)]), (1004, KE + 1, .row (nl0 N) (pcC P))]) rfl ?_ ?_ ?_) ?_
    iterate 3 (case _ => simp (disch := omega) only [wP, wZ, undef, seval, if_pos, if_neg, aStore, frz, AV.flat, ↓reduceIte, ne_eq, reduceCtorEq, ByteArray.size, rgn_eq, rgH_at, renL_pcC, renL_u8, iR, ren_tup])
    repeat (first | refine wA ?_ | refine wB ?_ | refine wC rfl ?_ | refine wD rfl ?_ | refine wE ?_ | refine wF (by omega) ?_ | ((first | refine wG ?_ | refine wH ?_ | refine wI ?_ | refine wJ ?_ | refine wK ?_ | refine wL ?_); simp (disch := omega) only [wP, wZ, undef, seval, if_pos, if_neg, aStore, frz, AV.flat, ↓reduceIte, ne_eq, reduceCtorEq, ByteArray.size, iR, hR, renL_pcC]))
end Go.Proofs.YtbmppmdklappiaaDoor.Aw
namespace Go.Proofs.YtbmppmdklappiaaDoor.Aw
open Go
set_option linter.unusedSimpArgs false
set_option linter.unusedVariables false
theorem chunks_pcC {l : List (Nat × Nat)} : chunks (some 2) l.length (pcC l) = l.map pcA := by
  have h := chunks_flat (es := some 2) (l.map pcA) (fun x hx => by
    obtain ⟨p, _, rfl⟩ := List.mem_map.1 hx
    exact ⟨_, rfl, rfl⟩)
  rw [List.length_map, List.flatMap_map] at h
  exact h
theorem pcC_nil : pcC [] = [] := rfl
theorem nl00 : nl0 0 = true := rfl
def pcsE (b : List UInt8) : List (Nat × Nat) × Nat := eachM b b.length 0 ([], List.replicate b.length 0) [] 0
def pcsM (b : List UInt8) : List (Nat × Nat) := (pcsE b).1 ++ litP (b.drop (pcsE b).2)
theorem eachM_ind {b : List UInt8} (I : Nat → List (Nat × Nat) → Nat → Prop) (hI : ∀ p P s l k, I p P s → s ≤ p → p < b.length → runOk b p (min 258 (b.length - p)) (l, k) → 0 < l → I (p + l) (runP b P s p l k) (p + l)) (hJ : ∀ p P s, I p P s → I (p + 1) P s) :
    ∀ (n p : Nat) (x : List (K3 × Nat) × List Int) (P : List (Nat × Nat)) (s : Nat), FInv b x.1 x.2 p → p ≤ b.length → s ≤ p → b.length ≤ p + n → I p P s → I b.length (eachM b n p x P s).1 (eachM b n p x P s).2 ∧ (eachM b n p x P s).2 ≤ b.length
  | 0, p, x, P, s, hF, hp, hs, hn, h => by
    obtain rfl : p = b.length := by omega
    exact ⟨h, hs⟩
  | n + 1, p, x, P, s, hF, hp, hs, hn, h => by
    rw [eachM]
    by_cases c : b.length ≤ p
    · rw [if_pos c]
      obtain rfl : p = b.length := by omega
      exact ⟨h, hs⟩
    · rw [if_neg c]
      have ho := runM_ok hF (show p < b.length by omega)
      by_cases d : 0 < (runM b x.1 x.2 p).1
      · rw [if_pos d]
        have hl : p + (runM b x.1 x.2 p).1 ≤ b.length := by
          rcases ho with h | ⟨_, h2, _⟩
          · omega
          · have : min 258 (b.length - p) ≤ b.length - p := Nat.min_le_right _ _
            omega
        exact eachM_ind I hI hJ n _ _ _ _ (addN_inv hF hl) hl (Nat.le_refl _) (by omega) (hI _ _ _ _ _ h hs (by omega) ho d)
      · rw [if_neg d]
        exact eachM_ind I hI hJ n _ _ _ _ (addN_inv hF (by omega)) (by omega) (by omega) (by omega) (hJ _ _ _ h)
theorem pcsE_ind {b : List UInt8} (I : Nat → List (Nat × Nat) → Nat → Prop) (hI : ∀ p P s l k, I p P s → s ≤ p → p < b.length → runOk b p (min 258 (b.length - p)) (l, k) → 0 < l → I (p + l) (runP b P s p l k) (p + l)) (hJ : ∀ p P s, I p P s → I (p + 1) P s) (h0 : I 0 [] 0) : I b.length (pcsE b).1 (pcsE b).2 ∧ (pcsE b).2 ≤ b.length :=
  eachM_ind I hI hJ b.length 0 ([], List.replicate b.length 0) [] 0 FInv.start (Nat.zero_le _) (Nat.le_refl _) (by omega) h0
theorem litP_ok {l : List UInt8} : ∀ q ∈ litP l, pcOk q := fun q hq => by
  obtain ⟨c, _, rfl⟩ := List.mem_map.1 hq
  exact .inl ⟨rfl, by have := c.toNat_lt; omega⟩
theorem pcsE_facts {b : List UInt8} (hb : b.length ≤ 20000) : ((∀ q ∈ (pcsE b).1, pcOk q) ∧ (pcsE b).1.length ≤ (pcsE b).2) ∧ (pcsE b).2 ≤ b.length := by
  have h := pcsE_ind (b := b) (fun p P s => (∀ q ∈ P, pcOk q) ∧ P.length ≤ s) (fun p P s l k h hs hp ho hl => ⟨fun q hq => ?_, ?_⟩) (fun p P s h => h) ⟨by simp, by simp⟩
  · exact h
  · rw [runP] at hq
    rcases List.mem_append.1 hq with hq | hq
    · rcases List.mem_append.1 hq with hq | hq
      · exact h.1 q hq
      · exact litP_ok q hq
    · rw [List.mem_singleton] at hq
      subst hq
      rcases ho with ho | ⟨h1, h2, h3, h4, _⟩
      · simp only at ho; omega
      · simp only at h1 h2 h3 h4
        exact .inr ⟨by simp only; omega, by simp only; omega, by simp only; omega, by simp only; omega⟩
  · have := h.2
    rw [length_runP hs (by omega)]; omega
theorem pcsM_ok {b : List UInt8} (hb : b.length ≤ 20000) : ∀ q ∈ pcsM b, pcOk q := fun q hq => by
  rcases List.mem_append.1 hq with hq | hq
  · exact (pcsE_facts hb).1.1 q hq
  · exact litP_ok q hq
theorem pcsM_len {b : List UInt8} (hb : b.length ≤ 20000) : (pcsM b).length ≤ 20000 := by
  have h := pcsE_facts hb
  rw [pcsM, List.length_append, litP, List.length_map, List.length_drop]; omega
set_option maxHeartbeats 1000000 in
set_option maxRecDepth 100000 in
theorem piecesOf_c [Tabs Tryd.prog] (nl : Bool) (b : List UInt8) (hb : b.length ≤ 20000) : Con Tryd.prog n_deflate_piecesOf [.sl nl none (b.map u8)] (.sl (nl0 (pcsM b).length) (some 2) ((pcsM b).map pcA)) := by
  refine Con.of' mix Tryd.func25 rfl Tryd.ntmps25 e_deflate_piecesOf r_deflate_piecesOf (by simp) (by simp only [AV.free, AV.free.freeL, free_u8, Bool.and_self]) (by simp only [AV.free]; exact free_pcs) ?_
  unfold s_deflate_piecesOf
  obtain ⟨R, hR0⟩ : ∃ R, R = pcsE b := ⟨_, rfl⟩
  have er := eachRun_h nl b hb R hR0
  have hf := pcsE_facts hb
  rw [← hR0] at hf
  obtain ⟨⟨hf1, hf2⟩, hf3⟩ := hf
  obtain ⟨Q, s⟩ := R
  simp only at hf1 hf2 hf3 er
  obtain ⟨N, hN⟩ : ∃ N, N = Q.length := ⟨_, rfl⟩
  have p1 := pieces1_h nl b hb s b.length hf3 (Nat.le_refl _) Q N hN (by omega)
  rw [List.take_length] at p1
  have hM : pcsM b = Q ++ litP (b.drop s) := by rw [pcsM, ← hR0]
  rw [← hM] at p1
  have hMl : (pcsM b).length = N + (b.length - s) := by rw [hM, List.length_append, litP, List.length_map, List.length_drop, hN]
  obtain ⟨Z, hZ⟩ : ∃ Z, Z = pcsM b := ⟨_, rfl⟩
  obtain ⟨M, hMd⟩ : ∃ M, M = Z.length := ⟨_, rfl⟩
  have hMe : N + (b.length - s) = M := by rw [hMd, hZ, hMl]
  rw [hMe, ← hZ] at p1
  have hcn : chunks (some 2) M (pcC Z) = Z.map pcA := by rw [hMd]; exact chunks_pcC
  have hpl : (pcC Z).length = M * 2 := by rw [length_pcC, hMd]
  rw [← hZ, ← hMd]
  simp only [p2I, p2O, List.length_nil, ← hN] at er
  iterate 4 (first | refine wA ?_ | refine wB ?_ | refine wC rfl ?_ | refine wD rfl ?_ | refine wE ?_ | refine wF (by omega) ?_ | ((first | refine wG ?_ | refine wH ?_ | refine wI ?_ | refine wJ ?_ | refine wK ?_ | refine wL ?_); simp (disch := omega) only [wP, wZ, undef, seval, if_pos, if_neg, aStore, frz, AV.flat, ↓reduceIte, ne_eq, reduceCtorEq, ByteArray.size]))
  refine SWp.adoptC 3 1 0 100 (some 2) (nl := false) (cells := [.sc (.slice none 0 0)]) (by simp (disch := omega) only [wP, wZ, undef, seval, if_pos, if_neg, aStore, frz, AV.flat, ↓reduceIte, ne_eq, reduceCtorEq, ByteArray.size]) rfl (by decide) ?_
  repeat (first | refine wA ?_ | refine wB ?_ | refine wC rfl ?_ | refine wD rfl ?_ | refine wE ?_ | refine wF (by omega) ?_ | ((first | refine wG ?_ | refine wH ?_ | refine wI ?_ | refine wJ ?_ | refine wK ?_ | refine wL ?_); simp (disch := omega) only [wP, wZ, undef, seval, if_pos, if_neg, aStore, frz, AV.flat, ↓reduceIte, ne_eq, reduceCtorEq, ByteArray.size, List.set_cons_zero]))
  refine goC_h [(5, 4), (3, 1), (4, 3), (1, 0), (100, 2)] 2000 er (by simp) (by simp) ?_ ?_ ?_
  iterate 2 (case _ => simp (disch := omega) only [wP, wZ, undef, seval, if_pos, if_neg, aStore, frz, AV.flat, ↓reduceIte, ne_eq, reduceCtorEq, ByteArray.size, hR, ren_tup, renL_pcC, pcC_nil, nl00])
  iterate 1 (first | refine wA ?_ | refine wB ?_ | refine wC rfl ?_ | refine wD rfl ?_ | refine wE ?_ | refine wF (by omega) ?_ | ((first | refine wG ?_ | refine wH ?_ | refine wI ?_ | refine wJ ?_ | refine wK ?_ | refine wL ?_); simp (disch := omega) only [wP, wZ, undef, seval, if_pos, if_neg, aStore, frz, AV.flat, ↓reduceIte, ne_eq, reduceCtorEq, ByteArray.size, hR, ren_tup, renL_pcC]))
  repeat (first | refine wA ?_ | refine wB ?_ | refine wC rfl ?_ | refine wD rfl ?_ | refine wE ?_ | refine wF (by omega) ?_ | ((first | refine wG ?_ | refine wH ?_ | refine wI ?_ | refine wJ ?_ | refine wK ?_ | refine wL ?_); simp (disch := omega) only [wP, wZ, undef, seval, if_pos, if_neg, aStore, frz, AV.flat, ↓reduceIte, ne_eq, reduceCtorEq, ByteArray.size, hR, ren_tup, renL_pcC, List.length_map]))
  refine goV_clo rfl ?_
  refine goC_h [(1, 0), (4, 3), (3, 1), (100, 5 + (KE + 1))] 3000 p1 (by simp) (by simp) ?_ ?_ ?_
  iterate 2 (case _ => simp (disch := omega) only [wP, wZ, undef, seval, if_pos, if_neg, aStore, frz, AV.flat, ↓reduceIte, ne_eq, reduceCtorEq, ByteArray.size, hR, ren_tup, renL_pcC])
  repeat (first | refine wA ?_ | refine wB ?_ | refine wC rfl ?_ | refine wD rfl ?_ | refine wE ?_ | refine wF (by omega) ?_ | ((first | refine wG ?_ | refine wH ?_ | refine wI ?_ | refine wJ ?_ | refine wK ?_ | refine wL ?_); simp (disch := omega) only [wP, wZ, undef, seval, if_pos, if_neg, aStore, frz, AV.flat, ↓reduceIte, ne_eq, reduceCtorEq, ByteArray.size, hR, ren_tup, renL_pcC, hcn, hpl]))
end Go.Proofs.YtbmppmdklappiaaDoor.Aw
namespace Go.Proofs.YtbmppmdklappiaaDoor.Aw
open Go
set_option linter.unusedSimpArgs false
set_option linter.unusedVariables false
def wrR (g n i : Nat) : List AV := [.own 1001 g none 0 n, .sc (.int .i64 (i : Int))]
theorem wr_gl {n i : Nat} {nl : Bool} {b : List UInt8} : ∀ m cells, AO.row m cells ∈ [AO.row false (wrR 0 n i), .row nl (b.map u8)] → AV.gl.glL 1 cells := by
  intro m cells h
  simp only [List.mem_cons, AO.row.injEq, List.not_mem_nil, or_false] at h
  obtain ⟨-, rfl⟩ | ⟨-, rfl⟩ := h
  · simp only [wrR, AV.gl.glL, AV.gl, and_true]; omega
  · exact glL_of_free _ _ free_u8
theorem huff_NewWriter_h [Tabs Tryd.prog] : HCon Tryd.prog n_huff_NewWriter [] [] (.op 2 1 0) [(2, 1, .row false [.own 100 2 none 0 0, int 0]), (100, 2, .row true [])] 3 := by
  refine HCon.of' mix Tryd.func22 rfl Tryd.ntmps22 e_huff_NewWriter r_huff_NewWriter (by simp) (by simp [AV.gl.glL]) (by simp) ?_
  unfold s_huff_NewWriter
  iterate 4 (first | refine wA ?_ | refine wB ?_ | refine wC rfl ?_ | refine wD rfl ?_ | refine wE ?_ | refine wF (by omega) ?_ | ((first | refine wG ?_ | refine wH ?_ | refine wI ?_ | refine wJ ?_ | refine wK ?_ | refine wL ?_); simp (disch := omega) only [wP, wZ, undef, seval, if_pos, if_neg, aStore, frz, AV.flat, ↓reduceIte, ne_eq, reduceCtorEq, ByteArray.size]))
  refine SWp.adoptC 2 1 0 100 none (nl := false) (cells := [.sc (.slice none 0 0), int 0]) (by simp (disch := omega) only [wP, wZ, undef, seval, if_pos, if_neg, aStore, frz, AV.flat, ↓reduceIte, ne_eq, reduceCtorEq, ByteArray.size]) rfl (by decide) ?_
  repeat (first | refine wA ?_ | refine wB ?_ | refine wC rfl ?_ | refine wD rfl ?_ | refine wE ?_ | refine wF (by omega) ?_ | ((first | refine wG ?_ | refine wH ?_ | refine wI ?_ | refine wJ ?_ | refine wK ?_ | refine wL ?_); simp (disch := omega) only [wP, wZ, undef, seval, if_pos, if_neg, aStore, frz, AV.flat, ↓reduceIte, ne_eq, reduceCtorEq, ByteArray.size, List.set_cons_zero]))
set_option maxRecDepth 100000 in
theorem huff_wbit_h [Tabs Tryd.prog] (L : List Nat) (hl : L.length ≤ 3000000) (hL : ∀ x ∈ L, x < 2) (n i : Nat) (hn : n = (L.length + 7) / 8) (hi : i = L.length) (x : Nat) (hx : x < 2) :
    HCon Tryd.prog n_huff_Writer_bit [.op 1000 0 0, .sc (.int .i64 (x : Int))] [.row false (wrR 0 n i), .row (nl0 n) ((bytesB L).map u8)] (.tup [])
      [(1000, 0, .row false (wrR 1 ((i + 8) / 8) (i + 1))), (1001, 1, .row false ((bytesB (L ++ [x])).map u8))] 2 := by
  refine HCon.of' mix Tryd.func98 rfl Tryd.ntmps98 e_huff_Writer_bit r_huff_Writer_bit (by simp) (by simp [AV.gl, AV.gl.glL]) wr_gl ?_
  unfold s_huff_Writer_bit
  have hbl : (bytesB L).length = n := by rw [length_bytesB, hn]
  by_cases c0 : i % 8 = 0
  · have hs := bytesB_snoc0 (L := L) (x := x) (by omega)
    have hin : i / 8 = n := by omega
    have hn1 : (i + 8) / 8 = n + 1 := by omega
    obtain ⟨b, hb⟩ : ∃ b, b = bytesB L := ⟨_, rfl⟩
    rw [← hb] at hs hbl ⊢
    rw [hs, hn1]
    obtain ⟨b0, hb0⟩ : ∃ b0, b0 = b ++ [0] := ⟨_, rfl⟩
    have hrow : b.map u8 ++ [AV.sc (.int .u8 0)] = b0.map u8 := by rw [hb0]; simp [u8]
    have hl0 : b0.length = n + 1 := by rw [hb0]; simp [hbl]
    have hg0 : b0.getD n 0 = 0 := by rw [hb0, ← hbl]; simp [List.getD]
    have hset : b0.set n (UInt8.ofNat x) = b ++ [UInt8.ofNat x] := by rw [hb0, ← hbl]; simp
    have hor : aInt .or .u8 ((b0.getD n 0).toNat : Int) .u8 (x : Int) = (True, .sc (.int .u8 ((UInt8.ofNat x).toNat : Int))) := by
      rw [hg0]
      obtain rfl | rfl : x = 0 ∨ x = 1 := by omega
      · exact or_u8 (n := 0) (m := 0) (by omega) (by omega)
      · exact or_u8 (n := 0) (m := 1) (by omega) (by omega)
    have hfin := splice_u8 (b := b0) (k := n) (c := UInt8.ofNat x) (by omega)
    rw [hset] at hfin
    repeat (first | refine wA ?_ | refine wB ?_ | refine wC rfl ?_ | refine wD rfl ?_ | refine wE ?_ | refine wF (by omega) ?_ | ((first | refine wG ?_ | refine wH ?_ | refine wI ?_ | refine wJ ?_ | refine wK ?_ | refine wL ?_); simp (disch := omega) only [wP, wZ, undef, seval, if_pos, if_neg, aStore, frz, AV.flat, ↓reduceIte, ne_eq, reduceCtorEq, ByteArray.size, wrR, c0, hin, hrow, hor, hfin, iR]))
  · have hs := bytesB_snoc1 (L := L) (x := x) (by omega)
    have hla := bytesB_last (L := L) (by omega)
    obtain ⟨q, hq⟩ : ∃ q, q = L.length / 8 := ⟨_, rfl⟩
    obtain ⟨j, hj⟩ : ∃ j, j = L.length % 8 := ⟨_, rfl⟩
    rw [← hq] at hs hla
    rw [← hj] at hs
    have hlt := numB_lt (l := L.drop (8 * q)) fun y hy => hL y (List.mem_of_mem_drop hy)
    have hdl : (L.drop (8 * q)).length = j := by rw [List.length_drop]; omega
    rw [hdl] at hlt
    obtain ⟨y, hy⟩ : ∃ y, y = numB (L.drop (8 * q)) := ⟨_, rfl⟩
    rw [← hy] at hs hla hlt
    have hp : 2 ^ j ≤ 128 := two_pow_le (n := j) (m := 7) (by omega)
    obtain ⟨z, hz⟩ : ∃ z, z = x * 2 ^ j := ⟨_, rfl⟩
    have hzl : z ≤ 128 := by
      obtain rfl | rfl : x = 0 ∨ x = 1 := by omega
      · omega
      · omega
    have hor : y ||| z = y + 2 ^ j * x := by
      rw [hz, Nat.mul_comm, Nat.or_comm, ← Nat.two_pow_add_eq_or_of_lt hlt, Nat.add_comm]
    have hyz : y + 2 ^ j * x < 256 := by
      rw [Nat.mul_comm, ← hz]
      have := Nat.or_lt_two_pow (n := 8) (x := y) (y := z) (by omega) (by omega)
      rw [hor, Nat.mul_comm, ← hz] at this
      exact this
    have hiq : i / 8 = q := by omega
    have hij : i % 8 = j := by omega
    have hi8 : (i + 8) / 8 = n := by omega
    have hqn : q < n := by omega
    obtain ⟨b, hb⟩ : ∃ b, b = bytesB L := ⟨_, rfl⟩
    rw [← hb] at hs hla hbl ⊢
    rw [hs, hi8]
    have hbq : ((b.getD q 0).toNat : Int) = (y : Int) := by rw [hla, UInt8.toNat_ofNat', Nat.mod_eq_of_lt (by omega)]
    obtain ⟨c, hc⟩ : ∃ c, c = UInt8.ofNat (y + 2 ^ j * x) := ⟨_, rfl⟩
    have hcy : y ||| z = c.toNat := by rw [hc, hor, UInt8.toNat_ofNat', Nat.mod_eq_of_lt hyz]
    rw [← hc]
    have hfin := splice_u8 (b := b) (k := q) (c := c) (by omega)
    have dj : decide ((j : Int) = 0) = false := decide_eq_false (by omega)
    have hnl : nl0 n = false := nl0_pos (by omega)
    refine SWp.renew 1001 0 (o := .row (nl0 n) (b.map u8)) (by simp (disch := omega) only [wP, wZ, undef, seval, if_pos, if_neg, aStore, frz, AV.flat, ↓reduceIte, ne_eq, reduceCtorEq, ByteArray.size, wrR]) ?_
    refine SWp.le (le_mk (N := 47) (gc := 2) (l := [(0, .op 1000 0 0), (1, .sc (.int .i64 (x : Int)))]) (h := [(1000, 0, .row false (wrR 1 n i)), (1001, 1, .row false (b.map u8))]) rfl ?_ ?_ ?_) ?_
    · exact Nat.le_refl _
    iterate 2 (case _ => simp (disch := omega) only [wP, wZ, undef, seval, if_pos, if_neg, aStore, frz, AV.flat, ↓reduceIte, ne_eq, reduceCtorEq, ByteArray.size, rgn_eq, wrR, rgH_at, hnl])
    repeat (first | refine wA ?_ | refine wB ?_ | refine wC rfl ?_ | refine wD rfl ?_ | refine wE ?_ | refine wF (by omega) ?_ | ((first | refine wG ?_ | refine wH ?_ | refine wI ?_ | refine wJ ?_ | refine wK ?_ | refine wL ?_); simp (disch := omega) only [wP, wZ, undef, seval, if_pos, if_neg, aStore, frz, AV.flat, ↓reduceIte, ne_eq, reduceCtorEq, ByteArray.size, wrR, hij, dj, hiq, hbq, ← hz, hcy, hfin, iR]))
set_option maxRecDepth 100000 in
theorem huff_Put_h [Tabs Tryd.prog] (L : List Nat) (hl : L.length ≤ 2000000) (hL : ∀ x ∈ L, x < 2) (v : Nat) (hv : v < 16777216) (n : Nat) (hn : n ≤ 24) (i m : Nat) (hi : i = L.length) (hm : m = (L.length + 7) / 8) :
    HCon Tryd.prog n_huff_Writer_Put [.op 1000 0 0, .sc (.int .i64 (v : Int)), .sc (.int .i64 (n : Int))] [.row false (wrR 0 m i), .row (nl0 m) ((bytesB L).map u8)] (.tup [])
      [(1000, 0, .row false (wrR 60 ((i + n + 7) / 8) (i + n))), (1001, 60, .row (nl0 ((i + n + 7) / 8)) ((bytesB (L ++ digB v n)).map u8))] 61 := by
  refine HCon.of' mix Tryd.func71 rfl Tryd.ntmps71 e_huff_Writer_Put r_huff_Writer_Put (by simp) (by simp [AV.gl, AV.gl.glL]) wr_gl ?_
  unfold s_huff_Writer_Put
  have d1 : decide ((n : Int) < 0) = false := decide_eq_false (by omega)
  have d2 : decide (24 < (n : Int)) = false := decide_eq_false (by omega)
  repeat (first | refine wA ?_ | refine wB ?_ | refine wC rfl ?_ | refine wD rfl ?_ | refine wE ?_ | refine wF (by omega) ?_ | ((first | refine wG ?_ | refine wH ?_ | refine wI ?_ | refine wJ ?_ | refine wK ?_ | refine wL ?_); simp (disch := omega) only [wP, wZ, undef, seval, if_pos, if_neg, aStore, frz, AV.flat, ↓reduceIte, ne_eq, reduceCtorEq, ByteArray.size, d1, d2]))
  refine SWp.loop (α := Nat × Nat) (fun x => mk 24 (1 + 2 * x.1) [(0, .op 1000 0 0), (1, .sc (.int .i64 (v : Int))), (13, int n), (14, int x.1)] [(1000, 0, .row false (wrR x.2 ((i + x.1 + 7) / 8) (i + x.1))), (1001, x.2, .row (nl0 ((i + x.1 + 7) / 8)) ((bytesB (L ++ (digB v n).take x.1)).map u8))])
    (fun x => x.1 ≤ n) (fun x => n - x.1) (0, 0) (Nat.zero_le _) (le_mk rfl ?_ ?_ ?_) ?_
  · exact Nat.le_refl _
  · simp (disch := omega) only [wP, wZ, undef, seval, if_pos, if_neg, aStore, frz, AV.flat, ↓reduceIte, ne_eq, reduceCtorEq, ByteArray.size]
  · simp (disch := omega) only [wP, wZ, undef, seval, if_pos, if_neg, aStore, frz, AV.flat, ↓reduceIte, ne_eq, reduceCtorEq, ByteArray.size, wrR, List.take_zero, List.append_nil]
    rw [hm, hi]; exact ⟨rfl, rfl⟩
  rintro ⟨k, g⟩ hk -
  simp only at hk
  repeat (first | refine wA ?_ | refine wB ?_ | refine wC rfl ?_ | refine wD rfl ?_ | refine wE ?_ | refine wF (by omega) ?_ | ((first | refine wG ?_ | refine wH ?_ | refine wI ?_ | refine wJ ?_ | refine wK ?_ | refine wL ?_); simp (disch := omega) only [wP, wZ, undef, seval, if_pos, if_neg, aStore, frz, AV.flat, ↓reduceIte, ne_eq, reduceCtorEq, ByteArray.size]))
  refine SWp.cond rfl (fun h => ?_) (fun h => ?_)
  · simp only [decide_eq_true_eq] at h
    have hkn : k < n := by omega
    have hs := digB_snoc (v := v) hkn
    obtain ⟨L', hL'⟩ : ∃ L', L' = L ++ (digB v n).take k := ⟨_, rfl⟩
    have hll : L'.length = i + k := by rw [hL', List.length_append, List.length_take, length_digB]; omega
    have hL2 : ∀ x ∈ L', x < 2 := by
      rw [hL']
      intro x hx
      rcases List.mem_append.1 hx with h | h
      · exact hL x h
      · exact digB_lt x (List.mem_of_mem_take h)
    obtain ⟨y, hy⟩ : ∃ y, y = v / 2 ^ k := ⟨_, rfl⟩
    rw [← hy] at hs
    have hyv : y < 16777216 := by rw [hy]; exact Nat.lt_of_le_of_lt (Nat.div_le_self _ _) hv
    have hbit := huff_wbit_h L' (by omega) hL2 ((i + k + 7) / 8) (i + k) (by rw [hll]) hll.symm (y % 2) (Nat.mod_lt _ (by omega))
    have hs2 : L ++ (digB v n).take (k + 1) = L' ++ [y % 2] := by rw [hs, hL', List.append_assoc]
    rw [← hL']
    have e78 : i + (k + 1) + 7 = i + k + 8 := by omega
    have hnl : nl0 ((i + k + 8) / 8) = false := nl0_pos (by omega)
    repeat (first | refine wA ?_ | refine wB ?_ | refine wC rfl ?_ | refine wD rfl ?_ | refine wE ?_ | refine wF (by omega) ?_ | ((first | refine wG ?_ | refine wH ?_ | refine wI ?_ | refine wJ ?_ | refine wK ?_ | refine wL ?_); simp (disch := omega) only [wP, wZ, undef, seval, if_pos, if_neg, aStore, frz, AV.flat, ↓reduceIte, ne_eq, reduceCtorEq, ByteArray.size, ← hy, wrR]))
    refine goC_h [(1000, 0), (1001, g)] 2000 hbit (by simp) (by simp) ?_ ?_ ?_
    iterate 2 (case _ => simp (disch := omega) only [wP, wZ, undef, seval, if_pos, if_neg, aStore, frz, AV.flat, ↓reduceIte, ne_eq, reduceCtorEq, ByteArray.size, wrR, iR])
    repeat (first | refine wA ?_ | refine wB ?_ | refine wC rfl ?_ | refine wD rfl ?_ | refine wE ?_ | refine wF (by omega) ?_ | ((first | refine wG ?_ | refine wH ?_ | refine wI ?_ | refine wJ ?_ | refine wK ?_ | refine wL ?_); simp (disch := omega) only [wP, wZ, undef, seval, if_pos, if_neg, aStore, frz, AV.flat, ↓reduceIte, ne_eq, reduceCtorEq, ByteArray.size, wrR, iR]))
    refine At.of (k + 1, 1 + 2 * k + 1) (by simp only; omega) (by simp only; omega) rfl rfl ?_ ?_ ?_
    · simp only; omega
    iterate 2 (case _ => simp (disch := omega) only [wP, wZ, undef, seval, if_pos, if_neg, aStore, frz, AV.flat, ↓reduceIte, ne_eq, reduceCtorEq, ByteArray.size, wrR, hs2, e78, hnl, Int.add_assoc])
  · simp only [decide_eq_false_iff_not] at h
    obtain rfl : k = n := by omega
    have ht : (digB v k).take k = digB v k := List.take_of_length_le (by rw [length_digB]; exact Nat.le_refl _)
    rw [ht]
    refine SWp.le (le_mk (N := 24) (gc := 60) (l := []) (h := [(1000, 0, .row false (wrR g ((i + k + 7) / 8) (i + k))), (1001, g, .row (nl0 ((i + k + 7) / 8)) ((bytesB (L ++ digB v k)).map u8))]) rfl ?_ ?_ ?_) ?_
    · simp (disch := omega) only [wP, wZ, undef, seval, if_pos, if_neg, aStore, frz, AV.flat, ↓reduceIte, ne_eq, reduceCtorEq, ByteArray.size]
      omega
    iterate 2 (case _ => simp (disch := omega) only [wP, wZ, undef, seval, if_pos, if_neg, aStore, frz, AV.flat, ↓reduceIte, ne_eq, reduceCtorEq, ByteArray.size])
    refine SWp.renew 1001 g (o := .row (nl0 ((i + k + 7) / 8)) ((bytesB (L ++ digB v k)).map u8)) (by simp (disch := omega) only [wP, wZ, undef, seval, if_pos, if_neg, aStore, frz, AV.flat, ↓reduceIte, ne_eq, reduceCtorEq, ByteArray.size]) ?_
    refine SWp.le (le_mk (N := 24) (gc := 61) (l := []) (h := [(1000, 0, .row false (wrR 60 ((i + k + 7) / 8) (i + k))), (1001, 60, .row (nl0 ((i + k + 7) / 8)) ((bytesB (L ++ digB v k)).map u8))]) rfl ?_ ?_ ?_) ?_
    iterate 3 (case _ => simp (disch := omega) only [wP, wZ, undef, seval, if_pos, if_neg, aStore, frz, AV.flat, ↓reduceIte, ne_eq, reduceCtorEq, ByteArray.size, wrR, rgH_at, rgn_eq])
    repeat (first | refine wA ?_ | refine wB ?_ | refine wC rfl ?_ | refine wD rfl ?_ | refine wE ?_ | refine wF (by omega) ?_ | ((first | refine wG ?_ | refine wH ?_ | refine wI ?_ | refine wJ ?_ | refine wK ?_ | refine wL ?_); simp (disch := omega) only [wP, wZ, undef, seval, if_pos, if_neg, aStore, frz, AV.flat, ↓reduceIte, ne_eq, reduceCtorEq, ByteArray.size, iR]))
set_option maxRecDepth 100000 in
theorem huff_Code_h [Tabs Tryd.prog] (L : List Nat) (hl : L.length ≤ 2000000) (hL : ∀ x ∈ L, x < 2) (v : Nat) (hv : v < 33554432) (n : Nat) (hn : n ≤ 15) (i m : Nat) (hi : i = L.length) (hm : m = (L.length + 7) / 8) :
    HCon Tryd.prog n_huff_Writer_Code [.op 1000 0 0, .sc (.int .i64 (v : Int)), .sc (.int .i64 (n : Int))] [.row false (wrR 0 m i), .row (nl0 m) ((bytesB L).map u8)] (.tup [])
      [(1000, 0, .row false (wrR 60 ((i + n + 7) / 8) (i + n))), (1001, 60, .row (nl0 ((i + n + 7) / 8)) ((bytesB (L ++ rowB v n)).map u8))] 61 := by
  refine HCon.of' mix Tryd.func99 rfl Tryd.ntmps99 e_huff_Writer_Code r_huff_Writer_Code (by simp) (by simp [AV.gl, AV.gl.glL]) wr_gl ?_
  unfold s_huff_Writer_Code
  have d1 : decide ((n : Int) < 0) = false := decide_eq_false (by omega)
  have d2 : decide (15 < (n : Int)) = false := decide_eq_false (by omega)
  repeat (first | refine wA ?_ | refine wB ?_ | refine wC rfl ?_ | refine wD rfl ?_ | refine wE ?_ | refine wF (by omega) ?_ | ((first | refine wG ?_ | refine wH ?_ | refine wI ?_ | refine wJ ?_ | refine wK ?_ | refine wL ?_); simp (disch := omega) only [wP, wZ, undef, seval, if_pos, if_neg, aStore, frz, AV.flat, ↓reduceIte, ne_eq, reduceCtorEq, ByteArray.size, d1, d2]))
  refine SWp.loop (α := Nat × Nat) (fun x => mk 27 (1 + 2 * x.1) [(0, .op 1000 0 0), (1, .sc (.int .i64 (v : Int))), (2, int n), (13, int n), (14, int x.1)] [(1000, 0, .row false (wrR x.2 ((i + x.1 + 7) / 8) (i + x.1))), (1001, x.2, .row (nl0 ((i + x.1 + 7) / 8)) ((bytesB (L ++ (rowB v n).take x.1)).map u8))])
    (fun x => x.1 ≤ n) (fun x => n - x.1) (0, 0) (Nat.zero_le _) (le_mk rfl ?_ ?_ ?_) ?_
  · exact Nat.le_refl _
  · simp (disch := omega) only [wP, wZ, undef, seval, if_pos, if_neg, aStore, frz, AV.flat, ↓reduceIte, ne_eq, reduceCtorEq, ByteArray.size]
  · simp (disch := omega) only [wP, wZ, undef, seval, if_pos, if_neg, aStore, frz, AV.flat, ↓reduceIte, ne_eq, reduceCtorEq, ByteArray.size, wrR, List.take_zero, List.append_nil]
    rw [hm, hi]; exact ⟨rfl, rfl⟩
  rintro ⟨k, g⟩ hk -
  simp only at hk
  repeat (first | refine wA ?_ | refine wB ?_ | refine wC rfl ?_ | refine wD rfl ?_ | refine wE ?_ | refine wF (by omega) ?_ | ((first | refine wG ?_ | refine wH ?_ | refine wI ?_ | refine wJ ?_ | refine wK ?_ | refine wL ?_); simp (disch := omega) only [wP, wZ, undef, seval, if_pos, if_neg, aStore, frz, AV.flat, ↓reduceIte, ne_eq, reduceCtorEq, ByteArray.size]))
  refine SWp.cond rfl (fun h => ?_) (fun h => ?_)
  · simp only [decide_eq_true_eq] at h
    have hkn : k < n := by omega
    have hs := rowB_snoc (v := v) hkn
    obtain ⟨L', hL'⟩ : ∃ L', L' = L ++ (rowB v n).take k := ⟨_, rfl⟩
    have hll : L'.length = i + k := by rw [hL', List.length_append, List.length_take, length_rowB]; omega
    have hL2 : ∀ x ∈ L', x < 2 := by
      rw [hL']
      intro x hx
      rcases List.mem_append.1 hx with h | h
      · exact hL x h
      · exact rowB_lt x (List.mem_of_mem_take h)
    obtain ⟨j, hj⟩ : ∃ j, j = n - 1 - k := ⟨_, rfl⟩
    have hj2 : (n : Int) - 1 - (k : Int) = (j : Int) := by omega
    have hj3 : j ≤ 15 := by omega
    obtain ⟨y, hy⟩ : ∃ y, y = v / 2 ^ j := ⟨_, rfl⟩
    rw [← hj, ← hy] at hs
    have hyv : y < 33554432 := by rw [hy]; exact Nat.lt_of_le_of_lt (Nat.div_le_self _ _) hv
    have hbit := huff_wbit_h L' (by omega) hL2 ((i + k + 7) / 8) (i + k) (by rw [hll]) hll.symm (y % 2) (Nat.mod_lt _ (by omega))
    have hs2 : L ++ (rowB v n).take (k + 1) = L' ++ [y % 2] := by rw [hs, hL', List.append_assoc]
    rw [← hL']
    have e78 : i + (k + 1) + 7 = i + k + 8 := by omega
    have hnl : nl0 ((i + k + 8) / 8) = false := nl0_pos (by omega)
    repeat (first | refine wA ?_ | refine wB ?_ | refine wC rfl ?_ | refine wD rfl ?_ | refine wE ?_ | refine wF (by omega) ?_ | ((first | refine wG ?_ | refine wH ?_ | refine wI ?_ | refine wJ ?_ | refine wK ?_ | refine wL ?_); simp (disch := omega) only [wP, wZ, undef, seval, if_pos, if_neg, aStore, frz, AV.flat, ↓reduceIte, ne_eq, reduceCtorEq, ByteArray.size, hj2, ← hy, wrR]))
    refine goC_h [(1000, 0), (1001, g)] 2000 hbit (by simp) (by simp) ?_ ?_ ?_
    iterate 2 (case _ => simp (disch := omega) only [wP, wZ, undef, seval, if_pos, if_neg, aStore, frz, AV.flat, ↓reduceIte, ne_eq, reduceCtorEq, ByteArray.size, wrR, iR])
    repeat (first | refine wA ?_ | refine wB ?_ | refine wC rfl ?_ | refine wD rfl ?_ | refine wE ?_ | refine wF (by omega) ?_ | ((first | refine wG ?_ | refine wH ?_ | refine wI ?_ | refine wJ ?_ | refine wK ?_ | refine wL ?_); simp (disch := omega) only [wP, wZ, undef, seval, if_pos, if_neg, aStore, frz, AV.flat, ↓reduceIte, ne_eq, reduceCtorEq, ByteArray.size, wrR, iR]))
    refine At.of (k + 1, 1 + 2 * k + 1) (by simp only; omega) (by simp only; omega) rfl rfl ?_ ?_ ?_
    · simp only; omega
    iterate 2 (case _ => simp (disch := omega) only [wP, wZ, undef, seval, if_pos, if_neg, aStore, frz, AV.flat, ↓reduceIte, ne_eq, reduceCtorEq, ByteArray.size, wrR, hs2, e78, hnl, Int.add_assoc])
  · simp only [decide_eq_false_iff_not] at h
    obtain rfl : k = n := by omega
    have ht : (rowB v k).take k = rowB v k := List.take_of_length_le (by rw [length_rowB]; exact Nat.le_refl _)
    rw [ht]
    refine SWp.le (le_mk (N := 27) (gc := 60) (l := []) (h := [(1000, 0, .row false (wrR g ((i + k + 7) / 8) (i + k))), (1001, g, .row (nl0 ((i + k + 7) / 8)) ((bytesB (L ++ rowB v k)).map u8))]) rfl ?_ ?_ ?_) ?_
    · simp (disch := omega) only [wP, wZ, undef, seval, if_pos, if_neg, aStore, frz, AV.flat, ↓reduceIte, ne_eq, reduceCtorEq, ByteArray.size]
      omega
    iterate 2 (case _ => simp (disch := omega) only [wP, wZ, undef, seval, if_pos, if_neg, aStore, frz, AV.flat, ↓reduceIte, ne_eq, reduceCtorEq, ByteArray.size])
    refine SWp.renew 1001 g (o := .row (nl0 ((i + k + 7) / 8)) ((bytesB (L ++ rowB v k)).map u8)) (by simp (disch := omega) only [wP, wZ, undef, seval, if_pos, if_neg, aStore, frz, AV.flat, ↓reduceIte, ne_eq, reduceCtorEq, ByteArray.size]) ?_
    refine SWp.le (le_mk (N := 27) (gc := 61) (l := []) (h := [(1000, 0, .row false (wrR 60 ((i + k + 7) / 8) (i + k))), (1001, 60, .row (nl0 ((i + k + 7) / 8)) ((bytesB (L ++ rowB v k)).map u8))]) rfl ?_ ?_ ?_) ?_
    iterate 3 (case _ => simp (disch := omega) only [wP, wZ, undef, seval, if_pos, if_neg, aStore, frz, AV.flat, ↓reduceIte, ne_eq, reduceCtorEq, ByteArray.size, wrR, rgH_at, rgn_eq])
    repeat (first | refine wA ?_ | refine wB ?_ | refine wC rfl ?_ | refine wD rfl ?_ | refine wE ?_ | refine wF (by omega) ?_ | ((first | refine wG ?_ | refine wH ?_ | refine wI ?_ | refine wJ ?_ | refine wK ?_ | refine wL ?_); simp (disch := omega) only [wP, wZ, undef, seval, if_pos, if_neg, aStore, frz, AV.flat, ↓reduceIte, ne_eq, reduceCtorEq, ByteArray.size, iR]))
theorem huff_WBytes_h [Tabs Tryd.prog] (n i : Nat) (b : List UInt8) (hb : b.length = n) (hn : n ≤ 1000000) : HCon Tryd.prog n_huff_Writer_Bytes [.op 1000 0 0] [.row false (wrR 0 n i), .row (nl0 n) (b.map u8)] (.sl (nl0 n) none (b.map u8)) [(1000, 0, .row false (wrR 0 n i)), (1001, 0, .row (nl0 n) (b.map u8))] 10 := by
  refine HCon.of' mix Tryd.func27 rfl Tryd.ntmps27 e_huff_Writer_Bytes r_huff_Writer_Bytes (by simp) (by simp [AV.gl, AV.gl.glL]) wr_gl ?_
  unfold s_huff_Writer_Bytes
  have hnl : nl0 n = true → b = [] := by
    intro h
    cases n with
    | zero => exact List.eq_nil_of_length_eq_zero hb
    | succ n => simp [nl0] at h
  have hcl := bytes_Clone_h (nl0 n) b (by omega) hnl
  rw [hb] at hcl
  repeat (first | refine wA ?_ | refine wB ?_ | refine wC rfl ?_ | refine wD rfl ?_ | refine wE ?_ | refine wF (by omega) ?_ | ((first | refine wG ?_ | refine wH ?_ | refine wI ?_ | refine wJ ?_ | refine wK ?_ | refine wL ?_); simp (disch := omega) only [wP, wZ, undef, seval, if_pos, if_neg, aStore, frz, AV.flat, ↓reduceIte, ne_eq, reduceCtorEq, ByteArray.size, wrR]))
  refine goC_hB [] 2000 hcl (by simp) (by simp) ?_ ?_ rfl ?_ ?_
  · simp (disch := omega) only [wP, wZ, undef, seval, if_pos, if_neg, aStore, frz, AV.flat, ↓reduceIte, ne_eq, reduceCtorEq, ByteArray.size]
  · refine ⟨.inr ⟨?_, ?_⟩, trivial⟩
    · simp (disch := omega) only [wP, wZ, undef, seval, if_pos, if_neg, aStore, frz, AV.flat, ↓reduceIte, ne_eq, reduceCtorEq, ByteArray.size, hb]
    · simp only [AV.free, free_u8]
  · simp only [foH, foL_b8, Bool.and_self]
  iterate 1 (first | refine wA ?_ | refine wB ?_ | refine wC rfl ?_ | refine wD rfl ?_ | refine wE ?_ | refine wF (by omega) ?_ | ((first | refine wG ?_ | refine wH ?_ | refine wI ?_ | refine wJ ?_ | refine wK ?_ | refine wL ?_); simp (disch := omega) only [wP, wZ, undef, seval, if_pos, if_neg, aStore, frz, AV.flat, ↓reduceIte, ne_eq, reduceCtorEq, ByteArray.size, wrR]))
  refine SWp.frzo 2005 3 (nl := nl0 n) (cells := b.map u8) (by simp (disch := omega) only [wP, wZ, undef, seval, if_pos, if_neg, aStore, frz, AV.flat, ↓reduceIte, ne_eq, reduceCtorEq, ByteArray.size]) free_u8 ?_
  refine SWp.le (le_mk (N := 8) (gc := 4) (l := [(2, .sl (nl0 n) none (b.map u8))]) (h := [(1000, 0, .row false (wrR 0 n i)), (1001, 0, .row (nl0 n) (b.map u8))]) rfl ?_ ?_ ?_) ?_
  iterate 3 (case _ => simp (disch := omega) only [wP, wZ, undef, seval, if_pos, if_neg, aStore, frz, AV.flat, ↓reduceIte, ne_eq, reduceCtorEq, ByteArray.size, fR, hb, wrR])
  repeat (first | refine wA ?_ | refine wB ?_ | refine wC rfl ?_ | refine wD rfl ?_ | refine wE ?_ | refine wF (by omega) ?_ | ((first | refine wG ?_ | refine wH ?_ | refine wI ?_ | refine wJ ?_ | refine wK ?_ | refine wL ?_); simp (disch := omega) only [wP, wZ, undef, seval, if_pos, if_neg, aStore, frz, AV.flat, ↓reduceIte, ne_eq, reduceCtorEq, ByteArray.size, wrR]))
end Go.Proofs.YtbmppmdklappiaaDoor.Aw
namespace Go.Proofs.YtbmppmdklappiaaDoor.Aw
open Go
set_option linter.unusedSimpArgs false
set_option linter.unusedVariables false
def symB (l : List Nat) (s : Nat × Nat × Nat) : List Nat := rowB ((codesL l).getD s.1 0) (l.getD s.1 0) ++ digB s.2.1 s.2.2
theorem symB_lt {l : List Nat} {s : Nat × Nat × Nat} : ∀ x ∈ symB l s, x < 2 := fun x hx => (List.mem_append.1 hx).elim (rowB_lt x) (digB_lt x)
theorem length_symB {l : List Nat} {s : Nat × Nat × Nat} : (symB l s).length = l.getD s.1 0 + s.2.2 := by rw [symB, List.length_append, length_rowB, length_digB]
structure SyOk (l : List Nat) (s : Nat × Nat × Nat) : Prop where
  num : s.1 < l.length
  more : s.2.1 < 16777216
  bits : s.2.2 ≤ 24
theorem getD_le {l : List Nat} (h : ∀ x ∈ l, x ≤ 15) {i : Nat} (hi : i < l.length) : l.getD i 0 ≤ 15 := by
  have : l.getD i 0 = l[i] := by simp [List.getD, hi]
  rw [this]; exact h _ (List.getElem_mem _)
theorem codesL_small {l : List Nat} (h : LnOk l) {i : Nat} (hi : i < l.length) : (codesL l).getD i 0 < 33554432 := by
  have e : (codesL l).getD i 0 = codeOf l i := by simp [codesL, List.getD, hi]
  rw [e, codeOf]
  split
  · omega
  · have h1 := fr_lt h.len (getD_le h.small hi)
    have h2 := count_take_le (l := l) (k := i) (n := l.getD i 0)
    have := h.len
    omega
set_option maxRecDepth 100000 in
theorem packer_symbol_h [Tabs Tryd.prog] (L : List Nat) (hl : L.length ≤ 1900000) (hL : ∀ x ∈ L, x < 2) (nl : Bool) (l : List Nat) (ho : LnOk l) (s : Nat × Nat × Nat) (hs : SyOk l s) (i m : Nat) (hi : i = L.length) (hm : m = (L.length + 7) / 8) (j : Nat) (hj : j = (L ++ symB l s).length) :
    HCon Tryd.prog n_deflate_packer_symbol [.agg [.op 1000 0 0], cdA nl l, syA s] [.row false (wrR 0 m i), .row (nl0 m) ((bytesB L).map u8)] (.tup [])
      [(1000, 0, .row false (wrR 125 ((j + 7) / 8) j)), (1001, 125, .row (nl0 ((j + 7) / 8)) ((bytesB (L ++ symB l s)).map u8))] 126 := by
  refine HCon.of' mix Tryd.func73 rfl Tryd.ntmps73 e_deflate_packer_symbol r_deflate_packer_symbol (by simp) ?_ wr_gl ?_
  · simp only [AV.gl.glL, AV.gl, cdA, syA, and_true, true_and]
    exact ⟨by omega, glL_of_free _ _ free_nA, glL_of_free _ _ free_nA⟩
  unfold s_deflate_packer_symbol
  obtain ⟨a, b, c⟩ := s
  have hs1 := hs.num
  have hs2 := hs.more
  have hs3 := hs.bits
  simp only at hs1 hs2 hs3
  have hcl := length_codesL (l := l)
  have g1 : ((codesL l).map nA).getD a .junk = .sc (.int .i64 ((codesL l).getD a 0 : Int)) := getD_nA (by omega)
  have g2 : (l.map nA).getD a .junk = .sc (.int .i64 (l.getD a 0 : Int)) := getD_nA hs1
  have hv := codesL_small ho hs1
  have hn := getD_le ho.small hs1
  rw [List.length_append, length_symB] at hj
  obtain ⟨C, hC⟩ : ∃ C, C = codesL l := ⟨_, rfl⟩
  have hsy : symB l (a, b, c) = rowB (C.getD a 0) (l.getD a 0) ++ digB b c := by rw [symB, hC]
  rw [hsy]
  simp only at hj
  unfold cdA
  rw [← hC] at g1 hv hcl ⊢
  obtain ⟨v, hve⟩ : ∃ v, v = C.getD a 0 := ⟨_, rfl⟩
  obtain ⟨n, hne⟩ : ∃ v, v = l.getD a 0 := ⟨_, rfl⟩
  rw [← hve] at g1 hv ⊢
  rw [← hne] at g2 hn hj ⊢
  have p1 := huff_Code_h L (by omega) hL v hv n hn i m hi hm
  have hL1 : ∀ x ∈ L ++ rowB v n, x < 2 := fun x hx => (List.mem_append.1 hx).elim (hL x) (rowB_lt x)
  have hl1 : (L ++ rowB v n).length = i + n := by rw [List.length_append, length_rowB, hi]
  have p2 := huff_Put_h (L ++ rowB v n) (by omega) hL1 b hs2 c hs3 (i + n) ((i + n + 7) / 8) (by omega) (by omega)
  rw [List.append_assoc] at p2
  have hj2 : i + n + c = j := by omega
  rw [hj2] at p2
  obtain ⟨b1, e1⟩ : ∃ b, b = bytesB (L ++ rowB v n) := ⟨_, rfl⟩
  obtain ⟨b2, e2⟩ : ∃ x, x = bytesB (L ++ (rowB v n ++ digB b c)) := ⟨_, rfl⟩
  rw [← e1] at p1 p2
  rw [← e2] at p2 ⊢
  repeat (first | refine wA ?_ | refine wB ?_ | refine wC rfl ?_ | refine wD rfl ?_ | refine wE ?_ | refine wF (by omega) ?_ | ((first | refine wG ?_ | refine wH ?_ | refine wI ?_ | refine wJ ?_ | refine wK ?_ | refine wL ?_); simp (disch := omega) only [wP, wZ, undef, seval, if_pos, if_neg, aStore, frz, AV.flat, ↓reduceIte, ne_eq, reduceCtorEq, ByteArray.size, syA, List.length_map, g1, g2, hcl]))
  refine goC_h [(1000, 0), (1001, 0)] 2000 p1 (by simp) (by simp) ?_ ?_ ?_
  iterate 2 (case _ => simp (disch := omega) only [wP, wZ, undef, seval, if_pos, if_neg, aStore, frz, AV.flat, ↓reduceIte, ne_eq, reduceCtorEq, ByteArray.size, wrR])
  repeat (first | refine wA ?_ | refine wB ?_ | refine wC rfl ?_ | refine wD rfl ?_ | refine wE ?_ | refine wF (by omega) ?_ | ((first | refine wG ?_ | refine wH ?_ | refine wI ?_ | refine wJ ?_ | refine wK ?_ | refine wL ?_); simp (disch := omega) only [wP, wZ, undef, seval, if_pos, if_neg, aStore, frz, AV.flat, ↓reduceIte, ne_eq, reduceCtorEq, ByteArray.size, wrR, iR]))
  refine goC_h [(1000, 0), (1001, 64)] 3000 p2 (by simp) (by simp) ?_ ?_ ?_
  iterate 2 (case _ => simp (disch := omega) only [wP, wZ, undef, seval, if_pos, if_neg, aStore, frz, AV.flat, ↓reduceIte, ne_eq, reduceCtorEq, ByteArray.size, wrR])
  repeat (first | refine wA ?_ | refine wB ?_ | refine wC rfl ?_ | refine wD rfl ?_ | refine wE ?_ | refine wF (by omega) ?_ | ((first | refine wG ?_ | refine wH ?_ | refine wI ?_ | refine wJ ?_ | refine wK ?_ | refine wL ?_); simp (disch := omega) only [wP, wZ, undef, seval, if_pos, if_neg, aStore, frz, AV.flat, ↓reduceIte, ne_eq, reduceCtorEq, ByteArray.size, wrR, iR]))
theorem blen_log {v n : Nat} (h1 : 2 ^ n ≤ v) (h2 : v < 2 ^ (n + 1)) (hn : n < 17) : blen v = n + 1 := by
  unfold blen
  have e : List.range 17 = List.range (n + 1) ++ (List.range (16 - n)).map ((n + 1) + ·) := by
    have := List.range_add (n := n + 1) (m := 16 - n)
    rwa [show n + 1 + (16 - n) = 17 by omega] at this
  rw [e, List.countP_append, List.countP_eq_length.2 (fun k hk => by
    have hk := List.mem_range.1 hk
    have : 2 ^ k ≤ 2 ^ n := Nat.pow_le_pow_right (by omega) (by omega)
    simp only [decide_eq_true_eq]; omega), List.countP_eq_zero.2 (fun k hk => by
    rw [List.mem_map] at hk
    obtain ⟨j, _, rfl⟩ := hk
    have : 2 ^ (n + 1) ≤ 2 ^ (n + 1 + j) := Nat.pow_le_pow_right (by omega) (by omega)
    simp only [decide_eq_true_eq]; omega)]
  simp
theorem dst_num {w : Nat} (h : w < 32768) : symN w 1 < 30 := by
  by_cases c : w = 0
  · subst c; decide
  · obtain ⟨n, h1, h2⟩ : ∃ n, 2 ^ n ≤ w ∧ w < 2 ^ (n + 1) := ⟨w.log2, Nat.log2_self_le c, Nat.lt_log2_self⟩
    have hn : n < 15 := by
      rcases Nat.lt_or_ge n 15 with h | h
      · exact h
      · have : 2 ^ 15 ≤ 2 ^ n := Nat.pow_le_pow_right (by omega) h
        omega
    have hb := blen_log h1 h2 (by omega)
    have hl : symLow w 1 = n - 1 := by rw [symLow, hb]; omega
    rw [symN, hl]
    have hq : w / 2 ^ (n - 1) < 4 := by
      rw [Nat.div_lt_iff_lt_mul (Nat.two_pow_pos _)]
      have e4 : 4 * 2 ^ (n - 1) = 2 ^ (n - 1 + 2) := by rw [Nat.pow_add, Nat.mul_comm]
      rw [e4]
      exact Nat.lt_of_lt_of_le h2 (Nat.pow_le_pow_right (by omega) (by omega))
    by_cases c1 : n = 0
    · subst c1
      have : w = 1 := by omega
      subst this; decide
    · omega
theorem lit_num : ∀ w, w < 255 → symN w 2 < 28 := by decide +kernel
theorem symLow_le {w h : Nat} : symLow w h ≤ 17 := by have := blen_le (v := w); rw [symLow]; omega
theorem lit_ok {l : List Nat} (hl : 286 ≤ l.length) {p : Nat × Nat} (hp : pcOk p) : SyOk l (litS p) := by
  obtain ⟨v, b⟩ := p
  simp only [pcOk] at hp
  unfold litS
  split
  · exact ⟨by simp only; omega, by simp, by simp⟩
  split
  · exact ⟨by simp only; omega, by simp, by simp⟩
  · rename_i h1 h2
    simp only at h1 h2
    have := lit_num (v - 3) (by omega)
    exact ⟨by simp only; omega, by simp only; omega, Nat.le_trans symLow_le (by omega)⟩
theorem dst_ok {d : List Nat} (hd : 30 ≤ d.length) {p : Nat × Nat} (hp : pcOk p) (h0 : 0 < p.2) : SyOk d (dstS p) := by
  obtain ⟨v, b⟩ := p
  simp only [pcOk] at hp
  simp only at h0
  have := dst_num (w := b - 1) (by omega)
  exact ⟨by simp only [dstS]; omega, by simp only [dstS]; omega, Nat.le_trans symLow_le (by omega)⟩
theorem end_ok {l : List Nat} (hl : 286 ≤ l.length) : SyOk l (256, 0, 0) := ⟨by simp only; omega, by simp, by simp⟩
def pcB (l d : List Nat) (p : Nat × Nat) : List Nat := symB l (litS p) ++ if 0 < p.2 then symB d (dstS p) else []
def pcsB (l d : List Nat) (P : List (Nat × Nat)) : List Nat := P.flatMap (pcB l d) ++ symB l (256, 0, 0)
theorem symB_len {l : List Nat} (h : LnOk l) {s : Nat × Nat × Nat} (hs : SyOk l s) : (symB l s).length ≤ 39 := by
  rw [length_symB]
  have := getD_le h.small hs.num
  have := hs.bits
  omega
theorem pcB_lt {l d : List Nat} {p : Nat × Nat} : ∀ x ∈ pcB l d p, x < 2 := fun x hx => by
  rcases List.mem_append.1 hx with h | h
  · exact symB_lt x h
  · split at h
    · exact symB_lt x h
    · simp at h
theorem pcB_len {l d : List Nat} (hl : LnOk l) (hd : LnOk d) (h1 : 286 ≤ l.length) (h2 : 30 ≤ d.length) {p : Nat × Nat} (hp : pcOk p) : (pcB l d p).length ≤ 78 := by
  rw [pcB, List.length_append]
  have := symB_len hl (lit_ok h1 hp)
  split
  · rename_i c
    have := symB_len hd (dst_ok h2 hp c)
    omega
  · simp only [List.length_nil]; omega
theorem flat_len {l d : List Nat} (hl : LnOk l) (hd : LnOk d) (h1 : 286 ≤ l.length) (h2 : 30 ≤ d.length) : ∀ {P : List (Nat × Nat)}, (∀ p ∈ P, pcOk p) → (P.flatMap (pcB l d)).length ≤ 78 * P.length
  | [], _ => Nat.le_refl _
  | p :: P, h => by
    rw [List.flatMap_cons, List.length_append, List.length_cons]
    have := pcB_len hl hd h1 h2 (h p (by simp))
    have := flat_len hl hd h1 h2 (P := P) fun q hq => h q (by simp [hq])
    omega
end Go.Proofs.YtbmppmdklappiaaDoor.Aw
namespace Go.Proofs.YtbmppmdklappiaaDoor.Aw
open Go
set_option linter.unusedSimpArgs false
set_option linter.unusedVariables false
theorem getD_pc {l : List (Nat × Nat)} {i : Nat} (h : i < l.length) : (l.map pcA).getD i .junk = pcA (l.getD i (0, 0)) := by simp [List.getD, h]
set_option maxHeartbeats 1000000 in
set_option maxRecDepth 100000 in
theorem packer_pieces_h [Tabs Tryd.prog] (L : List Nat) (hl : L.length ≤ 300000) (hL : ∀ x ∈ L, x < 2) (nl : Bool) (P : List (Nat × Nat)) (hP : P.length ≤ 20000) (hok : ∀ p ∈ P, pcOk p) (l d : List Nat) (ol : LnOk l) (od : LnOk d) (l1 : 286 ≤ l.length) (d1 : 30 ≤ d.length) (i m : Nat) (hi : i = L.length) (hm : m = (L.length + 7) / 8) (j : Nat) (hj : j = (L ++ pcsB l d P).length) :
    HCon Tryd.prog n_deflate_packer_pieces [.agg [.op 1000 0 0], .sl nl (some 2) (P.map pcA), cdsA l d] [.row false (wrR 0 m i), .row (nl0 m) ((bytesB L).map u8)] (.tup [])
      [(1000, 0, .row false (wrR (KE + 1) ((j + 7) / 8) j)), (1001, KE + 1, .row (nl0 ((j + 7) / 8)) ((bytesB (L ++ pcsB l d P)).map u8))] (KE + 2) := by
  refine HCon.of' mix Tryd.func45 rfl Tryd.ntmps45 e_deflate_packer_pieces r_deflate_packer_pieces (by simp) ?_ wr_gl ?_
  · simp only [AV.gl.glL, AV.gl, cdsA, and_true, true_and]
    exact ⟨by omega, glL_of_free _ _ free_pcs, glL_of_free _ _ free_nA, glL_of_free _ _ free_nA, glL_of_free _ _ free_nA, glL_of_free _ _ free_nA⟩
  unfold s_deflate_packer_pieces
  obtain ⟨C, hC⟩ : ∃ C, C = codesL l := ⟨_, rfl⟩
  obtain ⟨D, hD⟩ : ∃ D, D = codesL d := ⟨_, rfl⟩
  unfold cdsA
  rw [← hC, ← hD]
  repeat (first | refine wA ?_ | refine wB ?_ | refine wC rfl ?_ | refine wD rfl ?_ | refine wE ?_ | refine wF (by omega) ?_ | ((first | refine wG ?_ | refine wH ?_ | refine wI ?_ | refine wJ ?_ | refine wK ?_ | refine wL ?_); simp (disch := omega) only [wP, wZ, undef, seval, if_pos, if_neg, aStore, frz, AV.flat, ↓reduceIte, ne_eq, reduceCtorEq, ByteArray.size, List.length_map]))
  obtain ⟨A, hA⟩ : ∃ A, A = P.map pcA := ⟨_, rfl⟩
  have hAl : A.length = P.length := by rw [hA, List.length_map]
  rw [← hA]
  refine SWp.loop (α := Nat × List Nat × Nat × Nat) (fun x => mk 34 x.2.2.2 [(3, .op 3 1 0), (5, .op 5 2 0), (8, .sl nl (some 2) A), (9, int P.length), (10, int x.1)] [(1000, 0, .row false (wrR x.2.2.1 ((x.2.1.length + 7) / 8) x.2.1.length)), (1001, x.2.2.1, .row (nl0 ((x.2.1.length + 7) / 8)) ((bytesB x.2.1).map u8)), (3, 1, .row false [.op 1000 0 0]), (5, 2, .row false [.sl false none (l.map nA), .sl false none (C.map nA), .sl false none (d.map nA), .sl false none (D.map nA)])])
    (fun x => x.1 ≤ P.length ∧ x.2.1 = L ++ (P.take x.1).flatMap (pcB l d) ∧ (∀ y ∈ x.2.1, y < 2) ∧ x.2.1.length ≤ 300000 + 78 * x.1 ∧ x.2.2.2 ≤ 3 + 300 * x.1) (fun x => P.length - x.1) (0, L, 0, 3) ⟨Nat.zero_le _, by simp, hL, by simpa using hl, by simp⟩ (le_mk rfl ?_ ?_ ?_) ?_
  · exact Nat.le_refl _
  iterate 2 (case _ => simp (disch := omega) only [wP, wZ, undef, seval, if_pos, if_neg, aStore, frz, AV.flat, ↓reduceIte, ne_eq, reduceCtorEq, ByteArray.size, hi, hm])
  rintro ⟨k, X, g, gc⟩ ⟨hk, hX, hX2, hXl, hgc⟩ -
  simp only at hk hX hX2 hXl hgc
  by_cases ck : k < P.length
  · have dk : decide ((k : Int) < (P.length : Int)) = true := decide_eq_true (by omega)
    obtain ⟨p, hp⟩ : ∃ p, p = P.getD k (0, 0) := ⟨_, rfl⟩
    have hpP : p ∈ P := by
      have : P.getD k (0, 0) = P[k] := by simp [List.getD, ck]
      rw [hp, this]; exact List.getElem_mem _
    have ho := hok p hpP
    have hg : A.getD k .junk = .agg [.sc (.int .u16 (p.1 : Int)), .sc (.int .u16 (p.2 : Int))] := by rw [hA, getD_pc ck, ← hp]; rfl
    have htk : (P.take (k + 1)).flatMap (pcB l d) = (P.take k).flatMap (pcB l d) ++ pcB l d p := by
      rw [snocD (d := (0, 0)) ck, ← hp, List.flatMap_append]; simp
    have hpl := pcB_len ol od l1 d1 ho
    obtain ⟨Y, hY⟩ : ∃ Y, Y = X ++ symB l (litS p) := ⟨_, rfl⟩
    have hYl : Y.length ≤ X.length + 39 := by
      rw [hY, List.length_append]; have := symB_len ol (lit_ok l1 ho); omega
    have hY2 : ∀ y ∈ Y, y < 2 := fun y hy => by rw [hY] at hy; exact (List.mem_append.1 hy).elim (hX2 y) (symB_lt y)
    have p1 := packer_symbol_h X (by omega) hX2 false l ol (litS p) (lit_ok l1 ho) X.length ((X.length + 7) / 8) rfl rfl Y.length (by rw [hY])
    rw [← hY, cdA, ← hC] at p1
    have lc := literal_c p ho
    rw [pcA] at lc
    have ir := isRun_c p
    rw [pcA] at ir
    have hrS : ∀ ρ, ren ρ (syA (litS p)) = syA (litS p) := fun ρ => rfl
    obtain ⟨S, hS⟩ : ∃ S, S = syA (litS p) := ⟨_, rfl⟩
    rw [← hS] at p1 lc hrS
    repeat (first | refine wA ?_ | refine wB ?_ | refine wC rfl ?_ | refine wD rfl ?_ | refine wE ?_ | refine wF (by omega) ?_ | ((first | refine wG ?_ | refine wH ?_ | refine wI ?_ | refine wJ ?_ | refine wK ?_ | refine wL ?_); simp (disch := omega) only [wP, wZ, undef, seval, if_pos, if_neg, aStore, frz, AV.flat, ↓reduceIte, ne_eq, reduceCtorEq, ByteArray.size, dk, hAl, hg]))
    refine goC_p _ (.inl ⟨rfl, lc⟩) ?_
    repeat (first | refine wA ?_ | refine wB ?_ | refine wC rfl ?_ | refine wD rfl ?_ | refine wE ?_ | refine wF (by omega) ?_ | ((first | refine wG ?_ | refine wH ?_ | refine wI ?_ | refine wJ ?_ | refine wK ?_ | refine wL ?_); simp (disch := omega) only [wP, wZ, undef, seval, if_pos, if_neg, aStore, frz, AV.flat, ↓reduceIte, ne_eq, reduceCtorEq, ByteArray.size]))
    refine goC_h [(1000, 0), (1001, g)] 2000 p1 (by simp) (by simp) ?_ ?_ ?_
    iterate 2 (case _ => simp (disch := omega) only [wP, wZ, undef, seval, if_pos, if_neg, aStore, frz, AV.flat, ↓reduceIte, ne_eq, reduceCtorEq, ByteArray.size, wrR, iR, hrS])
    by_cases c0 : 0 < p.2
    · have e0 : decide (0 < p.2) = true := decide_eq_true c0
      rw [e0] at ir
      obtain ⟨Z, hZ⟩ : ∃ Z, Z = Y ++ symB d (dstS p) := ⟨_, rfl⟩
      have hZl : Z.length = X.length + (pcB l d p).length := by rw [hZ, hY, pcB, if_pos c0]; simp [Nat.add_assoc]
      have p2 := packer_symbol_h Y (by omega) hY2 false d od (dstS p) (dst_ok d1 ho c0) Y.length ((Y.length + 7) / 8) rfl rfl Z.length (by rw [hZ])
      rw [← hZ, cdA, ← hD] at p2
      have dc := distance_c p c0 (by have := ho; simp only [pcOk] at this; omega)
      rw [pcA] at dc
      have hrS2 : ∀ ρ, ren ρ (syA (dstS p)) = syA (dstS p) := fun ρ => rfl
      obtain ⟨S2, hS2⟩ : ∃ S2, S2 = syA (dstS p) := ⟨_, rfl⟩
      rw [← hS2] at p2 dc hrS2
      repeat (first | refine wA ?_ | refine wB ?_ | refine wC rfl ?_ | refine wD rfl ?_ | refine wE ?_ | refine wF (by omega) ?_ | ((first | refine wG ?_ | refine wH ?_ | refine wI ?_ | refine wJ ?_ | refine wK ?_ | refine wL ?_); simp (disch := omega) only [wP, wZ, undef, seval, if_pos, if_neg, aStore, frz, AV.flat, ↓reduceIte, ne_eq, reduceCtorEq, ByteArray.size, wrR, iR]))
      refine goC_p _ (.inl ⟨rfl, ir⟩) ?_
      repeat (first | refine wA ?_ | refine wB ?_ | refine wC rfl ?_ | refine wD rfl ?_ | refine wE ?_ | refine wF (by omega) ?_ | ((first | refine wG ?_ | refine wH ?_ | refine wI ?_ | refine wJ ?_ | refine wK ?_ | refine wL ?_); simp (disch := omega) only [wP, wZ, undef, seval, if_pos, if_neg, aStore, frz, AV.flat, ↓reduceIte, ne_eq, reduceCtorEq, ByteArray.size, wrR, iR]))
      refine goC_p _ (.inl ⟨rfl, dc⟩) ?_
      repeat (first | refine wA ?_ | refine wB ?_ | refine wC rfl ?_ | refine wD rfl ?_ | refine wE ?_ | refine wF (by omega) ?_ | ((first | refine wG ?_ | refine wH ?_ | refine wI ?_ | refine wJ ?_ | refine wK ?_ | refine wL ?_); simp (disch := omega) only [wP, wZ, undef, seval, if_pos, if_neg, aStore, frz, AV.flat, ↓reduceIte, ne_eq, reduceCtorEq, ByteArray.size, wrR, iR]))
      refine goC_h [(1000, 0), (1001, gc + 1 + 125)] 3000 p2 (by simp) (by simp) ?_ ?_ ?_
      iterate 2 (case _ => simp (disch := omega) only [wP, wZ, undef, seval, if_pos, if_neg, aStore, frz, AV.flat, ↓reduceIte, ne_eq, reduceCtorEq, ByteArray.size, wrR, iR, hrS2])
      repeat (first | refine wA ?_ | refine wB ?_ | refine wC rfl ?_ | refine wD rfl ?_ | refine wE ?_ | refine wF (by omega) ?_ | ((first | refine wG ?_ | refine wH ?_ | refine wI ?_ | refine wJ ?_ | refine wK ?_ | refine wL ?_); simp (disch := omega) only [wP, wZ, undef, seval, if_pos, if_neg, aStore, frz, AV.flat, ↓reduceIte, ne_eq, reduceCtorEq, ByteArray.size, wrR, iR]))
      refine At.of (k + 1, Z, gc + 1 + 126 + 125, gc + 1 + 126 + 126) ⟨by simp only; omega, by simp only; rw [hZ, hY, htk, hX, pcB, if_pos c0]; simp [List.append_assoc], fun y hy => by simp only at hy; rw [hZ] at hy; exact (List.mem_append.1 hy).elim (hY2 y) (symB_lt y), by simp only; omega, by simp only; omega⟩ (by simp only; omega) rfl rfl (Nat.le_refl _) ?_ ?_
      iterate 2 (case _ => simp (disch := omega) only [wP, wZ, undef, seval, if_pos, if_neg, aStore, frz, AV.flat, ↓reduceIte, ne_eq, reduceCtorEq, ByteArray.size, wrR])
    · have e0 : decide (0 < p.2) = false := decide_eq_false c0
      rw [e0] at ir
      repeat (first | refine wA ?_ | refine wB ?_ | refine wC rfl ?_ | refine wD rfl ?_ | refine wE ?_ | refine wF (by omega) ?_ | ((first | refine wG ?_ | refine wH ?_ | refine wI ?_ | refine wJ ?_ | refine wK ?_ | refine wL ?_); simp (disch := omega) only [wP, wZ, undef, seval, if_pos, if_neg, aStore, frz, AV.flat, ↓reduceIte, ne_eq, reduceCtorEq, ByteArray.size, wrR, iR]))
      refine goC_p _ (.inl ⟨rfl, ir⟩) ?_
      repeat (first | refine wA ?_ | refine wB ?_ | refine wC rfl ?_ | refine wD rfl ?_ | refine wE ?_ | refine wF (by omega) ?_ | ((first | refine wG ?_ | refine wH ?_ | refine wI ?_ | refine wJ ?_ | refine wK ?_ | refine wL ?_); simp (disch := omega) only [wP, wZ, undef, seval, if_pos, if_neg, aStore, frz, AV.flat, ↓reduceIte, ne_eq, reduceCtorEq, ByteArray.size, wrR, iR]))
      refine At.of (k + 1, Y, gc + 1 + 125, gc + 1 + 126) ⟨by simp only; omega, by simp only; rw [hY, htk, hX, pcB, if_neg c0]; simp [List.append_assoc], hY2, by simp only; omega, by simp only; omega⟩ (by simp only; omega) rfl rfl (Nat.le_refl _) ?_ ?_
      iterate 2 (case _ => simp (disch := omega) only [wP, wZ, undef, seval, if_pos, if_neg, aStore, frz, AV.flat, ↓reduceIte, ne_eq, reduceCtorEq, ByteArray.size, wrR])
  · have dk : decide ((k : Int) < (P.length : Int)) = false := decide_eq_false (by omega)
    rw [List.take_of_length_le (by omega)] at hX
    obtain ⟨Y, hY⟩ : ∃ Y, Y = X ++ symB l (256, 0, 0) := ⟨_, rfl⟩
    have hYe : L ++ pcsB l d P = Y := by rw [hY, hX, pcsB]; simp [List.append_assoc]
    have p1 := packer_symbol_h X (by omega) hX2 false l ol (256, 0, 0) (end_ok l1) X.length ((X.length + 7) / 8) rfl rfl Y.length (by rw [hY])
    rw [← hY, cdA, ← hC] at p1
    have hsy : syA (256, 0, 0) = .agg [.sc (.int .i64 256), .sc (.int .i64 0), .sc (.int .i64 0)] := rfl
    rw [hsy] at p1
    rw [hYe] at hj ⊢
    rw [hj]
    have hKE := KE_eq
    obtain ⟨z, hz⟩ : ∃ z, KE + 1 = z + 125 := ⟨KE - 124, by omega⟩
    have hz2 : KE + 2 = z + 126 := by omega
    rw [hz, hz2]
    iterate 5 (first | refine wA ?_ | refine wB ?_ | refine wC rfl ?_ | refine wD rfl ?_ | refine wE ?_ | refine wF (by omega) ?_ | ((first | refine wG ?_ | refine wH ?_ | refine wI ?_ | refine wJ ?_ | refine wK ?_ | refine wL ?_); simp (disch := omega) only [wP, wZ, undef, seval, if_pos, if_neg, aStore, frz, AV.flat, ↓reduceIte, ne_eq, reduceCtorEq, ByteArray.size, dk]))
    refine SWp.le (le_mk (N := 34) (gc := z) (l := [(3, .op 3 1 0), (5, .op 5 2 0)]) (h := [(1000, 0, .row false (wrR g ((X.length + 7) / 8) X.length)), (1001, g, .row (nl0 ((X.length + 7) / 8)) ((bytesB X).map u8)), (3, 1, .row false [.op 1000 0 0]), (5, 2, .row false [.sl false none (l.map nA), .sl false none (C.map nA), .sl false none (d.map nA), .sl false none (D.map nA)])]) rfl ?_ ?_ ?_) ?_
    · show gc ≤ z
      omega
    iterate 2 (case _ => simp (disch := omega) only [wP, wZ, undef, seval, if_pos, if_neg, aStore, frz, AV.flat, ↓reduceIte, ne_eq, reduceCtorEq, ByteArray.size])
    repeat (first | refine wA ?_ | refine wB ?_ | refine wC rfl ?_ | refine wD rfl ?_ | refine wE ?_ | refine wF (by omega) ?_ | ((first | refine wG ?_ | refine wH ?_ | refine wI ?_ | refine wJ ?_ | refine wK ?_ | refine wL ?_); simp (disch := omega) only [wP, wZ, undef, seval, if_pos, if_neg, aStore, frz, AV.flat, ↓reduceIte, ne_eq, reduceCtorEq, ByteArray.size]))
    refine goC_h [(1000, 0), (1001, g)] 2000 p1 (by simp) (by simp) ?_ ?_ ?_
    iterate 2 (case _ => simp (disch := omega) only [wP, wZ, undef, seval, if_pos, if_neg, aStore, frz, AV.flat, ↓reduceIte, ne_eq, reduceCtorEq, ByteArray.size, wrR, iR])
    repeat (first | refine wA ?_ | refine wB ?_ | refine wC rfl ?_ | refine wD rfl ?_ | refine wE ?_ | refine wF (by omega) ?_ | ((first | refine wG ?_ | refine wH ?_ | refine wI ?_ | refine wJ ?_ | refine wK ?_ | refine wL ?_); simp (disch := omega) only [wP, wZ, undef, seval, if_pos, if_neg, aStore, frz, AV.flat, ↓reduceIte, ne_eq, reduceCtorEq, ByteArray.size, wrR, iR]))
end Go.Proofs.YtbmppmdklappiaaDoor.Aw
namespace Go.Proofs.YtbmppmdklappiaaDoor.Aw
open Go
set_option linter.unusedSimpArgs false
set_option linter.unusedVariables false
theorem numB_dig (v : Nat) : ∀ (n : Nat), numB (digB v n) = v % 2 ^ n
  | 0 => by simp [digB, numB, Nat.mod_one]
  | n + 1 => by
    have e : digB v (n + 1) = digB v n ++ [v / 2 ^ n % 2] := by simp [digB, List.range_succ]
    rw [e, numB_append, numB_dig v n, length_digB]
    simp only [numB, Nat.mul_zero, Nat.add_zero]
    rw [Nat.pow_succ, Nat.mod_mul]
theorem numB_byte {c : UInt8} : numB (bitsB c) = c.toNat := by
  have := numB_dig c.toNat 8
  rw [Nat.mod_eq_of_lt (by have := c.toNat_lt; omega)] at this
  exact this
theorem drop_bits {X : List UInt8} : ∀ (k : Nat), (bitsL X).drop (8 * k) = bitsL (X.drop k) := by
  intro k
  have e : bitsL X = bitsL (X.take k) ++ bitsL (X.drop k) := by rw [← bitsL_append, List.take_append_drop]
  rw [e]
  by_cases h : k ≤ X.length
  · rw [List.drop_append_of_le_length (by rw [length_bitsL, List.length_take]; omega)]
    rw [List.drop_of_length_le (by rw [length_bitsL, List.length_take]; omega)]
    rfl
  · rw [List.drop_of_length_le (i := k) (by omega)]
    simp only [bitsL, List.flatMap_nil, List.append_nil]
    exact List.drop_of_length_le (by have := length_bitsL (l := X.take k); simp only [bitsL] at this; rw [this, List.length_take]; omega)
theorem bytes_bits {X : List UInt8} : bytesB (bitsL X) = X := by
  refine List.ext_getElem (by rw [length_bytesB, length_bitsL]; omega) fun k h1 h2 => ?_
  rw [length_bytesB, length_bitsL] at h1
  simp only [bytesB, List.getElem_map, List.getElem_range, byteAt]
  rw [drop_bits, List.drop_eq_getElem_cons h2]
  have : (bitsL (X[k] :: X.drop (k + 1))).take 8 = bitsB X[k] := by
    simp only [bitsL, List.flatMap_cons]
    rw [List.take_append_of_le_length (by rw [length_bitsB]; omega), List.take_of_length_le (by rw [length_bitsB]; omega)]
  rw [this, numB_byte]
  exact UInt8.ofNat_toNat
def padB (L : List Nat) : List Nat := L ++ List.replicate (8 * ((L.length + 7) / 8) - L.length) 0
theorem length_padB {L : List Nat} : (padB L).length = 8 * ((L.length + 7) / 8) := by rw [padB, List.length_append, List.length_replicate]; omega
theorem numB_zeros : ∀ (n : Nat), numB (List.replicate n 0) = 0
  | 0 => rfl
  | n + 1 => by rw [List.replicate_succ, numB, numB_zeros n]
theorem bytes_pad {L : List Nat} : bytesB (padB L) = bytesB L := by
  have hl : ((padB L).length + 7) / 8 = (L.length + 7) / 8 := by rw [length_padB]; omega
  unfold bytesB
  rw [hl]
  refine List.map_congr_left fun k hk => ?_
  have hk := List.mem_range.1 hk
  by_cases h : 8 * k + 8 ≤ L.length
  · exact byteAt_append h
  · unfold byteAt padB
    have e : 8 * ((L.length + 7) / 8) - L.length = 8 * k + 8 - L.length := by omega
    rw [List.drop_append_of_le_length (by omega), e, List.take_of_length_le (by rw [List.length_append, List.length_drop, List.length_replicate]; omega), List.take_of_length_le (by rw [List.length_drop]; omega), numB_append, numB_zeros]
    simp
theorem huff_WAlign_h [Tabs Tryd.prog] (B : List UInt8) (hB : B.length ≤ 2000000) (i m : Nat) (hm : m = B.length) :
    HCon Tryd.prog n_huff_Writer_Align [.op 1000 0 0] [.row false (wrR 0 m i), .row (nl0 m) (B.map u8)] (.tup [])
      [(1000, 0, .row false (wrR 0 m (8 * m))), (1001, 0, .row (nl0 m) (B.map u8))] 1 := by
  refine HCon.of' mix Tryd.func70 rfl Tryd.ntmps70 e_huff_Writer_Align r_huff_Writer_Align (by simp) (by simp [AV.gl, AV.gl.glL]) wr_gl ?_
  unfold s_huff_Writer_Align
  have e : (m : Int) * 8 = ((8 * m : Nat) : Int) := by omega
  repeat (first | refine wA ?_ | refine wB ?_ | refine wC rfl ?_ | refine wD rfl ?_ | refine wE ?_ | refine wF (by omega) ?_ | ((first | refine wG ?_ | refine wH ?_ | refine wI ?_ | refine wJ ?_ | refine wK ?_ | refine wL ?_); simp (disch := omega) only [wP, wZ, undef, UInt8.reduceToNat, Nat.reduceOr, Nat.reduceAnd, Nat.reduceXor, Nat.reduceDiv, if_pos, if_neg, aStore, frz, AV.flat, ↓reduceIte, ne_eq, reduceCtorEq, Int.reduceToNat, Nat.reduceEqDiff, Nat.reduceAdd, Nat.reduceSub, Nat.reduceMul, Int.reduceAdd, Int.reduceMul, Int.reduceSub, Int.reduceLT, Int.reduceLE, Int.reduceEq, Int.reduceNe, Nat.reduceLeDiff, Nat.reduceLT, Int.reduceNeg, Nat.reducePow, Nat.reduceMod, ByteArray.size, wrR, iR, e]))
theorem nl0_add {a : Nat} {y : List UInt8} : (nl0 a && (y.map u8).isEmpty) = nl0 (a + y.length) := by
  cases y with
  | nil => simp
  | cons c y => simp [nl0]
set_option maxRecDepth 100000 in
theorem huff_WRaw_h [Tabs Tryd.prog] (X : List UInt8) (hX : X.length ≤ 1000000) (nl : Bool) (b : List UInt8) (hb : b.length ≤ 1000000) (i m : Nat) (hm : m = X.length) :
    HCon Tryd.prog n_huff_Writer_Raw [.op 1000 0 0, .sl nl none (b.map u8)] [.row false (wrR 0 m i), .row (nl0 m) (X.map u8)] (.tup [])
      [(1000, 0, .row false (wrR 1 (m + b.length) (8 * (m + b.length)))), (1001, 1, .row (nl0 (m + b.length)) ((X ++ b).map u8))] 3 := by
  refine HCon.of' mix Tryd.func72 rfl Tryd.ntmps72 e_huff_Writer_Raw r_huff_Writer_Raw (by simp) (by simp only [AV.gl, AV.gl.glL, and_true]; exact ⟨by omega, glL_of_free _ _ free_u8⟩) wr_gl ?_
  unfold s_huff_Writer_Raw
  have hadd := nl0_add (a := m) (y := b)
  obtain ⟨B, hB⟩ : ∃ B, B = X ++ b := ⟨_, rfl⟩
  have hBl : B.length = m + b.length := by rw [hB, List.length_append, hm]
  have hrow : X.map u8 ++ b.map u8 = B.map u8 := by rw [hB, List.map_append]
  have al := huff_WAlign_h B (by omega) i (m + b.length) (by omega)
  rw [← hB]
  repeat (first | refine wA ?_ | refine wB ?_ | refine wC rfl ?_ | refine wD rfl ?_ | refine wE ?_ | refine wF (by omega) ?_ | ((first | refine wG ?_ | refine wH ?_ | refine wI ?_ | refine wJ ?_ | refine wK ?_ | refine wL ?_); simp (disch := omega) only [wP, wZ, undef, UInt8.reduceToNat, Nat.reduceOr, Nat.reduceAnd, Nat.reduceXor, Nat.reduceDiv, if_pos, if_neg, aStore, frz, AV.flat, ↓reduceIte, ne_eq, reduceCtorEq, Int.reduceToNat, Nat.reduceEqDiff, Nat.reduceAdd, Nat.reduceSub, Nat.reduceMul, Int.reduceAdd, Int.reduceMul, Int.reduceSub, Int.reduceLT, Int.reduceLE, Int.reduceEq, Int.reduceNe, Nat.reduceLeDiff, Nat.reduceLT, Int.reduceNeg, Nat.reducePow, Nat.reduceMod, ByteArray.size, wrR, hadd, hrow]))
  refine goC_h [(1000, 0), (1001, 1)] 2000 al (by simp) (by simp) ?_ ?_ ?_
  iterate 2 (case _ => simp (disch := omega) only [wP, wZ, undef, UInt8.reduceToNat, Nat.reduceOr, Nat.reduceAnd, Nat.reduceXor, Nat.reduceDiv, if_pos, if_neg, aStore, frz, AV.flat, ↓reduceIte, ne_eq, reduceCtorEq, Int.reduceToNat, Nat.reduceEqDiff, Nat.reduceAdd, Nat.reduceSub, Nat.reduceMul, Int.reduceAdd, Int.reduceMul, Int.reduceSub, Int.reduceLT, Int.reduceLE, Int.reduceEq, Int.reduceNe, Nat.reduceLeDiff, Nat.reduceLT, Int.reduceNeg, Nat.reducePow, Nat.reduceMod, ByteArray.size, wrR, iR])
  repeat (first | refine wA ?_ | refine wB ?_ | refine wC rfl ?_ | refine wD rfl ?_ | refine wE ?_ | refine wF (by omega) ?_ | ((first | refine wG ?_ | refine wH ?_ | refine wI ?_ | refine wJ ?_ | refine wK ?_ | refine wL ?_); simp (disch := omega) only [wP, wZ, undef, UInt8.reduceToNat, Nat.reduceOr, Nat.reduceAnd, Nat.reduceXor, Nat.reduceDiv, if_pos, if_neg, aStore, frz, AV.flat, ↓reduceIte, ne_eq, reduceCtorEq, Int.reduceToNat, Nat.reduceEqDiff, Nat.reduceAdd, Nat.reduceSub, Nat.reduceMul, Int.reduceAdd, Int.reduceMul, Int.reduceSub, Int.reduceLT, Int.reduceLE, Int.reduceEq, Int.reduceNe, Nat.reduceLeDiff, Nat.reduceLT, Int.reduceNeg, Nat.reducePow, Nat.reduceMod, ByteArray.size, wrR, iR]))
end Go.Proofs.YtbmppmdklappiaaDoor.Aw
namespace Go.Proofs.YtbmppmdklappiaaDoor.Aw
open Go
set_option linter.unusedSimpArgs false
set_option linter.unusedVariables false
set_option maxRecDepth 100000 in
theorem packer_begin_h [Tabs Tryd.prog] (L : List Nat) (hl : L.length ≤ 1900000) (hL : ∀ x ∈ L, x < 2) (u v : Nat) (hu : u < 2) (hv : v < 4) (i m : Nat) (hi : i = L.length) (hm : m = (L.length + 7) / 8) :
    HCon Tryd.prog n_deflate_packer_begin [.agg [.op 1000 0 0], .sc (.int .i64 (u : Int)), .sc (.int .i64 (v : Int))] [.row false (wrR 0 m i), .row (nl0 m) ((bytesB L).map u8)] (.tup [])
      [(1000, 0, .row false (wrR 123 ((i + 1 + 2 + 7) / 8) (i + 1 + 2))), (1001, 123, .row (nl0 ((i + 1 + 2 + 7) / 8)) ((bytesB (L ++ (digB u 1 ++ digB v 2))).map u8))] 124 := by
  refine HCon.of' mix Tryd.func44 rfl Tryd.ntmps44 e_deflate_packer_begin r_deflate_packer_begin (by simp) (by simp [AV.gl, AV.gl.glL]) wr_gl ?_
  unfold s_deflate_packer_begin
  have p1 := huff_Put_h L (by omega) hL u (by omega) 1 (by omega) i m hi hm
  have hL1 : ∀ x ∈ L ++ digB u 1, x < 2 := fun x hx => (List.mem_append.1 hx).elim (hL x) (digB_lt x)
  have hl1 : (L ++ digB u 1).length = i + 1 := by rw [List.length_append, length_digB, hi]
  have p2 := huff_Put_h (L ++ digB u 1) (by omega) hL1 v (by omega) 2 (by omega) (i + 1) ((i + 1 + 7) / 8) (by omega) (by omega)
  rw [List.append_assoc] at p2
  obtain ⟨b1, e1⟩ : ∃ b, b = bytesB (L ++ digB u 1) := ⟨_, rfl⟩
  obtain ⟨b2, e2⟩ : ∃ b, b = bytesB (L ++ (digB u 1 ++ digB v 2)) := ⟨_, rfl⟩
  rw [← e1] at p1 p2
  rw [← e2] at p2 ⊢
  repeat (first | refine wA ?_ | refine wB ?_ | refine wC rfl ?_ | refine wD rfl ?_ | refine wE ?_ | refine wF (by omega) ?_ | ((first | refine wG ?_ | refine wH ?_ | refine wI ?_ | refine wJ ?_ | refine wK ?_ | refine wL ?_); simp (disch := omega) only [wP, wZ, undef, seval, if_pos, if_neg, aStore, frz, AV.flat, ↓reduceIte, ne_eq, reduceCtorEq, ByteArray.size]))
  refine goC_h [(1000, 0), (1001, 0)] 2000 p1 (by simp) (by simp) ?_ ?_ ?_
  iterate 2 (case _ => simp (disch := omega) only [wP, wZ, undef, seval, if_pos, if_neg, aStore, frz, AV.flat, ↓reduceIte, ne_eq, reduceCtorEq, ByteArray.size, wrR])
  repeat (first | refine wA ?_ | refine wB ?_ | refine wC rfl ?_ | refine wD rfl ?_ | refine wE ?_ | refine wF (by omega) ?_ | ((first | refine wG ?_ | refine wH ?_ | refine wI ?_ | refine wJ ?_ | refine wK ?_ | refine wL ?_); simp (disch := omega) only [wP, wZ, undef, seval, if_pos, if_neg, aStore, frz, AV.flat, ↓reduceIte, ne_eq, reduceCtorEq, ByteArray.size, wrR, iR]))
  refine goC_h [(1000, 0), (1001, 62)] 3000 p2 (by simp) (by simp) ?_ ?_ ?_
  iterate 2 (case _ => simp (disch := omega) only [wP, wZ, undef, seval, if_pos, if_neg, aStore, frz, AV.flat, ↓reduceIte, ne_eq, reduceCtorEq, ByteArray.size, wrR])
  repeat (first | refine wA ?_ | refine wB ?_ | refine wC rfl ?_ | refine wD rfl ?_ | refine wE ?_ | refine wF (by omega) ?_ | ((first | refine wG ?_ | refine wH ?_ | refine wI ?_ | refine wJ ?_ | refine wK ?_ | refine wL ?_); simp (disch := omega) only [wP, wZ, undef, seval, if_pos, if_neg, aStore, frz, AV.flat, ↓reduceIte, ne_eq, reduceCtorEq, ByteArray.size, wrR, iR]))
def blkS (last : Nat) (b : List UInt8) : List UInt8 :=
  UInt8.ofNat last :: UInt8.ofNat (b.length % 256) :: UInt8.ofNat (b.length / 256) :: UInt8.ofNat ((65535 - b.length) % 256) :: UInt8.ofNat ((65535 - b.length) / 256) :: b
theorem bits_one {X : List UInt8} {c : UInt8} : bitsL (X ++ [c]) = bitsL X ++ bitsB c := by rw [bitsL_append]; simp [bitsL]
theorem bytes_head {X : List UInt8} {u : Nat} (hu : u < 2) : bytesB (bitsL X ++ (digB u 1 ++ digB 0 2)) = X ++ [UInt8.ofNat u] := by
  rw [← bytes_pad]
  have hl : (bitsL X ++ (digB u 1 ++ digB 0 2)).length = 8 * X.length + 3 := by rw [List.length_append, length_bitsL, List.length_append, length_digB, length_digB]
  have : padB (bitsL X ++ (digB u 1 ++ digB 0 2)) = bitsL (X ++ [UInt8.ofNat u]) := by
    unfold padB
    rw [hl, show 8 * ((8 * X.length + 3 + 7) / 8) - (8 * X.length + 3) = 5 by omega, bits_one, List.append_assoc]
    congr 1
    obtain rfl | rfl : u = 0 ∨ u = 1 := by omega
    · decide
    · decide
  rw [this, bytes_bits]
theorem dig16 {n : Nat} (h : n < 65536) : digB n 16 = bitsB (UInt8.ofNat (n % 256)) ++ bitsB (UInt8.ofNat (n / 256)) := by
  have e1 : (UInt8.ofNat (n % 256)).toNat = n % 256 := by rw [UInt8.toNat_ofNat']; omega
  have e2 : (UInt8.ofNat (n / 256)).toNat = n / 256 := by rw [UInt8.toNat_ofNat']; omega
  refine List.ext_getElem (by simp [digB, bitsB]) fun k h1 h2 => ?_
  have hk : k < 16 := by simpa [digB] using h1
  simp only [digB, List.getElem_map, List.getElem_range]
  by_cases c : k < 8
  · rw [List.getElem_append_left (by rw [length_bitsB]; exact c)]
    simp only [bitsB, List.getElem_map, List.getElem_range, e1]
    have h8 : 2 ^ k * 2 ^ (8 - k) = 256 := by rw [← Nat.pow_add, show k + (8 - k) = 8 by omega]
    rw [← h8, Nat.mod_mul_right_div_self]
    rw [show 8 - k = (7 - k) + 1 by omega, Nat.pow_succ, Nat.mul_comm, Nat.mod_mul_right_mod]
  · rw [List.getElem_append_right (by rw [length_bitsB]; omega)]
    simp only [bitsB, List.getElem_map, List.getElem_range, e2, List.length_map, List.length_range]
    have h8 : 256 * 2 ^ (k - 8) = 2 ^ k := by rw [show (256 : Nat) = 2 ^ 8 from rfl, ← Nat.pow_add, show 8 + (k - 8) = k by omega]
    rw [Nat.div_div_eq_div_mul, h8]
theorem bits_two {X : List UInt8} {n : Nat} (h : n < 65536) : bitsL X ++ digB n 16 = bitsL (X ++ [UInt8.ofNat (n % 256), UInt8.ofNat (n / 256)]) := by
  rw [dig16 h, bitsL_append]
  simp [bitsL]
set_option maxRecDepth 100000 in
theorem packer_storedBlock_h [Tabs Tryd.prog] (X : List UInt8) (hX : X.length ≤ 200000) (u : Nat) (hu : u < 2) (nl : Bool) (b : List UInt8) (hb : b.length ≤ 65535) (i m m' : Nat) (hm : m = X.length) (hi : i = 8 * m) (hm' : m' = m + 5 + b.length) :
    HCon Tryd.prog n_deflate_packer_storedBlock [.agg [.op 1000 0 0], .sc (.int .i64 (u : Int)), .sl nl none (b.map u8)] [.row false (wrR 0 m i), .row (nl0 m) (X.map u8)] (.tup [])
      [(1000, 0, .row false (wrR 250 m' (8 * m'))), (1001, 250, .row (nl0 m') ((X ++ blkS u b).map u8))] 252 := by
  refine HCon.of' mix Tryd.func43 rfl Tryd.ntmps43 e_deflate_packer_storedBlock r_deflate_packer_storedBlock (by simp) (by simp only [AV.gl, AV.gl.glL, and_true, true_and]; exact ⟨by omega, glL_of_free _ _ free_u8⟩) wr_gl ?_
  unfold s_deflate_packer_storedBlock
  obtain ⟨n, hn⟩ : ∃ n, n = b.length := ⟨_, rfl⟩
  have p1 := packer_begin_h (bitsL X) (by rw [length_bitsL]; omega) bitsL_lt u 0 hu (by omega) i m (by rw [length_bitsL]; omega) (by rw [length_bitsL]; omega)
  rw [bytes_bits, bytes_head hu] at p1
  obtain ⟨X1, hX1⟩ : ∃ Y, Y = X ++ [UInt8.ofNat u] := ⟨_, rfl⟩
  have l1 : X1.length = m + 1 := by rw [hX1]; simp [hm]
  have em1 : (i + 1 + 2 + 7) / 8 = m + 1 := by omega
  rw [← hX1, em1] at p1
  have p2 := huff_WAlign_h X1 (by omega) (i + 1 + 2) (m + 1) l1.symm
  have p3 := huff_Put_h (bitsL X1) (by rw [length_bitsL]; omega) bitsL_lt n (by omega) 16 (by omega) (8 * (m + 1)) (m + 1) (by rw [length_bitsL]; omega) (by rw [length_bitsL]; omega)
  rw [bytes_bits, bits_two (by omega), bytes_bits] at p3
  obtain ⟨X2, hX2⟩ : ∃ Y, Y = X1 ++ [UInt8.ofNat (n % 256), UInt8.ofNat (n / 256)] := ⟨_, rfl⟩
  have l2 : X2.length = m + 3 := by rw [hX2]; simp [l1]
  have em2 : (8 * (m + 1) + 16 + 7) / 8 = m + 3 := by omega
  have ei2 : 8 * (m + 1) + 16 = 8 * (m + 3) := by omega
  rw [← hX2, em2, ei2] at p3
  have p4 := huff_Put_h (bitsL X2) (by rw [length_bitsL]; omega) bitsL_lt (65535 - n) (by omega) 16 (by omega) (8 * (m + 3)) (m + 3) (by rw [length_bitsL]; omega) (by rw [length_bitsL]; omega)
  rw [bytes_bits, bits_two (by omega), bytes_bits] at p4
  obtain ⟨X3, hX3⟩ : ∃ Y, Y = X2 ++ [UInt8.ofNat ((65535 - n) % 256), UInt8.ofNat ((65535 - n) / 256)] := ⟨_, rfl⟩
  have l3 : X3.length = m + 5 := by rw [hX3]; simp [l2]
  have em3 : (8 * (m + 3) + 16 + 7) / 8 = m + 5 := by omega
  have ei3 : 8 * (m + 3) + 16 = 8 * (m + 5) := by omega
  rw [← hX3, em3, ei3] at p4
  have p5 := huff_WRaw_h X3 (by omega) nl b (by omega) (8 * (m + 5)) (m + 5) l3.symm
  have hfin : X3 ++ b = X ++ blkS u b := by rw [hX3, hX2, hX1, hn]; simp [blkS]
  rw [hfin, ← hm'] at p5
  obtain ⟨Y, hY⟩ : ∃ Y, Y = X ++ blkS u b := ⟨_, rfl⟩
  rw [← hY] at p5 ⊢
  obtain ⟨n', hn'⟩ : ∃ n', n' = 65535 - n := ⟨_, rfl⟩
  have en : (65535 : Int) - (n : Int) = (n' : Int) := by omega
  rw [← hn'] at p4
  clear hfin hY hX3 hX2 hX1
  repeat (first | refine wA ?_ | refine wB ?_ | refine wC rfl ?_ | refine wD rfl ?_ | refine wE ?_ | refine wF (by omega) ?_ | ((first | refine wG ?_ | refine wH ?_ | refine wI ?_ | refine wJ ?_ | refine wK ?_ | refine wL ?_); simp (disch := omega) only [wP, wZ, undef, seval, if_pos, if_neg, aStore, frz, AV.flat, ↓reduceIte, ne_eq, reduceCtorEq, ByteArray.size]))
  refine goC_h [(1000, 0), (1001, 0)] 2000 p1 (by simp) (by simp) ?_ ?_ ?_
  iterate 2 (case _ => simp (disch := omega) only [wP, wZ, undef, seval, if_pos, if_neg, aStore, frz, AV.flat, ↓reduceIte, ne_eq, reduceCtorEq, ByteArray.size, wrR])
  repeat (first | refine wA ?_ | refine wB ?_ | refine wC rfl ?_ | refine wD rfl ?_ | refine wE ?_ | refine wF (by omega) ?_ | ((first | refine wG ?_ | refine wH ?_ | refine wI ?_ | refine wJ ?_ | refine wK ?_ | refine wL ?_); simp (disch := omega) only [wP, wZ, undef, seval, if_pos, if_neg, aStore, frz, AV.flat, ↓reduceIte, ne_eq, reduceCtorEq, ByteArray.size, wrR, iR]))
  refine goC_h [(1000, 0), (1001, 125)] 3000 p2 (by simp) (by simp) ?_ ?_ ?_
  iterate 2 (case _ => simp (disch := omega) only [wP, wZ, undef, seval, if_pos, if_neg, aStore, frz, AV.flat, ↓reduceIte, ne_eq, reduceCtorEq, ByteArray.size, wrR])
  repeat (first | refine wA ?_ | refine wB ?_ | refine wC rfl ?_ | refine wD rfl ?_ | refine wE ?_ | refine wF (by omega) ?_ | ((first | refine wG ?_ | refine wH ?_ | refine wI ?_ | refine wJ ?_ | refine wK ?_ | refine wL ?_); simp (disch := omega) only [wP, wZ, undef, seval, if_pos, if_neg, aStore, frz, AV.flat, ↓reduceIte, ne_eq, reduceCtorEq, ByteArray.size, wrR, iR, List.length_map, ← hn]))
  refine goC_h [(1000, 0), (1001, 125)] 4000 p3 (by simp) (by simp) ?_ ?_ ?_
  iterate 2 (case _ => simp (disch := omega) only [wP, wZ, undef, seval, if_pos, if_neg, aStore, frz, AV.flat, ↓reduceIte, ne_eq, reduceCtorEq, ByteArray.size, wrR])
  repeat (first | refine wA ?_ | refine wB ?_ | refine wC rfl ?_ | refine wD rfl ?_ | refine wE ?_ | refine wF (by omega) ?_ | ((first | refine wG ?_ | refine wH ?_ | refine wI ?_ | refine wJ ?_ | refine wK ?_ | refine wL ?_); simp (disch := omega) only [wP, wZ, undef, seval, if_pos, if_neg, aStore, frz, AV.flat, ↓reduceIte, ne_eq, reduceCtorEq, ByteArray.size, wrR, iR, List.length_map, ← hn, en]))
  refine goC_h [(1000, 0), (1001, 187)] 5000 p4 (by simp) (by simp) ?_ ?_ ?_
  iterate 2 (case _ => simp (disch := omega) only [wP, wZ, undef, seval, if_pos, if_neg, aStore, frz, AV.flat, ↓reduceIte, ne_eq, reduceCtorEq, ByteArray.size, wrR])
  repeat (first | refine wA ?_ | refine wB ?_ | refine wC rfl ?_ | refine wD rfl ?_ | refine wE ?_ | refine wF (by omega) ?_ | ((first | refine wG ?_ | refine wH ?_ | refine wI ?_ | refine wJ ?_ | refine wK ?_ | refine wL ?_); simp (disch := omega) only [wP, wZ, undef, seval, if_pos, if_neg, aStore, frz, AV.flat, ↓reduceIte, ne_eq, reduceCtorEq, ByteArray.size, wrR, iR]))
  refine goC_h [(1000, 0), (1001, 248)] 6000 p5 (by simp) (by simp) ?_ ?_ ?_
  iterate 2 (case _ => simp (disch := omega) only [wP, wZ, undef, seval, if_pos, if_neg, aStore, frz, AV.flat, ↓reduceIte, ne_eq, reduceCtorEq, ByteArray.size, wrR])
  repeat (first | refine wA ?_ | refine wB ?_ | refine wC rfl ?_ | refine wD rfl ?_ | refine wE ?_ | refine wF (by omega) ?_ | ((first | refine wG ?_ | refine wH ?_ | refine wI ?_ | refine wJ ?_ | refine wK ?_ | refine wL ?_); simp (disch := omega) only [wP, wZ, undef, seval, if_pos, if_neg, aStore, frz, AV.flat, ↓reduceIte, ne_eq, reduceCtorEq, ByteArray.size, wrR, iR]))
def stK (b : List UInt8) : Nat → List UInt8
  | 0 => []
  | k + 1 => stK b k ++ blkS 0 ((b.drop (65535 * k)).take 65535)
def stL (b : List UInt8) : List UInt8 := stK b ((b.length - 1) / 65535) ++ blkS 1 (b.drop (65535 * ((b.length - 1) / 65535)))
theorem length_blkS {u : Nat} {b : List UInt8} : (blkS u b).length = b.length + 5 := rfl
theorem length_stK {b : List UInt8} : ∀ {k : Nat}, 65535 * k ≤ b.length → (stK b k).length = 65540 * k
  | 0, _ => rfl
  | k + 1, h => by rw [stK, List.length_append, length_stK (by omega), length_blkS, List.length_take, List.length_drop]; omega
set_option maxRecDepth 100000 in
theorem packer_stored_h [Tabs Tryd.prog] (nl : Bool) (b : List UInt8) (hb : b.length ≤ 170000) (m' : Nat) (hm' : m' = (stL b).length) :
    HCon Tryd.prog n_deflate_packer_stored [.agg [.op 1000 0 0], .sl nl none (b.map u8)] [.row false (wrR 0 0 0), .row true []] (.tup [])
      [(1000, 0, .row false (wrR 2251 m' (8 * m'))), (1001, 2251, .row (nl0 m') ((stL b).map u8))] 2253 := by
  refine HCon.of' mix Tryd.func23 rfl Tryd.ntmps23 e_deflate_packer_stored r_deflate_packer_stored (by simp) (by simp only [AV.gl, AV.gl.glL, and_true, true_and]; exact ⟨by omega, glL_of_free _ _ free_u8⟩) (wr_gl (b := [])) ?_
  unfold s_deflate_packer_stored
  obtain ⟨n, hn⟩ : ∃ n, n = b.length := ⟨_, rfl⟩
  obtain ⟨Q, hQ⟩ : ∃ Q, Q = (n - 1) / 65535 := ⟨_, rfl⟩
  have hstL : stL b = stK b Q ++ blkS 1 (b.drop (65535 * Q)) := by rw [stL, ← hn, ← hQ]
  repeat (first | refine wA ?_ | refine wB ?_ | refine wC rfl ?_ | refine wD rfl ?_ | refine wE ?_ | refine wF (by omega) ?_ | ((first | refine wG ?_ | refine wH ?_ | refine wI ?_ | refine wJ ?_ | refine wK ?_ | refine wL ?_); simp (disch := omega) only [wP, wZ, undef, seval, if_pos, if_neg, aStore, frz, AV.flat, ↓reduceIte, ne_eq, reduceCtorEq, ByteArray.size]))
  refine SWp.loop (α := Nat × Nat × Nat) (fun x => mk 16 x.2.2 [(1, .sl nl none ((b.drop (65535 * x.1)).map u8)), (2, .op 2 1 0)] [(2, 1, .row false [.op 1000 0 0]), (1000, 0, .row false (wrR x.2.1 (65540 * x.1) (8 * (65540 * x.1)))), (1001, x.2.1, .row (nl0 (65540 * x.1)) ((stK b x.1).map u8))])
    (fun x => x.1 ≤ Q ∧ x.2.2 ≤ 2 + 252 * x.1) (fun x => Q - x.1) (0, 0, 2) ⟨Nat.zero_le _, by simp⟩ (le_mk rfl ?_ ?_ ?_) ?_
  · exact Nat.le_refl _
  iterate 2 (case _ => simp (disch := omega) only [wP, wZ, undef, seval, if_pos, if_neg, aStore, frz, AV.flat, ↓reduceIte, ne_eq, reduceCtorEq, ByteArray.size, wrR, stK, nl0_zero])
  rintro ⟨k, g, gc⟩ ⟨hk, hgc⟩ -
  simp only at hk hgc
  obtain ⟨r, hr⟩ : ∃ r, r = b.drop (65535 * k) := ⟨_, rfl⟩
  have hrl : r.length = n - 65535 * k := by rw [hr, List.length_drop, hn]
  have hkn : 65535 * k ≤ n := by omega
  have hkl : (stK b k).length = 65540 * k := length_stK (by omega)
  obtain ⟨X, hX⟩ : ∃ X, X = stK b k := ⟨_, rfl⟩
  obtain ⟨m, hm⟩ : ∃ m, m = 65540 * k := ⟨_, rfl⟩
  rw [← hX, ← hm] at hkl
  simp only [← hr, ← hX, ← hm]
  by_cases ck : 65535 < r.length
  · have dk : decide ((65535 : Int) < (r.length : Int)) = true := decide_eq_true (by omega)
    have p1 := packer_storedBlock_h X (by omega) 0 (by omega) nl (r.take 65535) (by rw [List.length_take]; omega) (8 * m) m (m + 65540) hkl.symm rfl (by rw [List.length_take]; omega)
    have hs1 : X ++ blkS 0 (r.take 65535) = stK b (k + 1) := by rw [stK, ← hX, ← hr]
    rw [hs1] at p1
    have hd : r.drop 65535 = b.drop (65535 * (k + 1)) := by rw [hr, List.drop_drop]; congr 1
    have hm1 : 65540 * (k + 1) = m + 65540 := by omega
    repeat (first | refine wA ?_ | refine wB ?_ | refine wC rfl ?_ | refine wD rfl ?_ | refine wE ?_ | refine wF (by omega) ?_ | ((first | refine wG ?_ | refine wH ?_ | refine wI ?_ | refine wJ ?_ | refine wK ?_ | refine wL ?_); simp (disch := omega) only [wP, wZ, undef, seval, if_pos, if_neg, aStore, frz, AV.flat, ↓reduceIte, ne_eq, reduceCtorEq, ByteArray.size, List.length_map, dk]))
    refine goC_h [(1000, 0), (1001, g)] 2000 p1 (by simp) (by simp) ?_ ?_ ?_
    iterate 2 (case _ => simp (disch := omega) only [wP, wZ, undef, seval, if_pos, if_neg, aStore, frz, AV.flat, ↓reduceIte, ne_eq, reduceCtorEq, ByteArray.size, wrR])
    repeat (first | refine wA ?_ | refine wB ?_ | refine wC rfl ?_ | refine wD rfl ?_ | refine wE ?_ | refine wF (by omega) ?_ | ((first | refine wG ?_ | refine wH ?_ | refine wI ?_ | refine wJ ?_ | refine wK ?_ | refine wL ?_); simp (disch := omega) only [wP, wZ, undef, seval, if_pos, if_neg, aStore, frz, AV.flat, ↓reduceIte, ne_eq, reduceCtorEq, ByteArray.size, wrR, iR, List.length_map]))
    refine At.of (k + 1, gc + 250, gc + 252) ⟨by simp only; omega, by simp only; omega⟩ (by simp only; omega) rfl rfl (Nat.le_refl _) ?_ ?_
    iterate 2 (case _ => simp (disch := omega) only [wP, wZ, undef, seval, if_pos, if_neg, aStore, frz, AV.flat, ↓reduceIte, ne_eq, reduceCtorEq, ByteArray.size, hd, wrR, hm1])
  · have dk : decide ((65535 : Int) < (r.length : Int)) = false := decide_eq_false (by omega)
    obtain rfl : k = Q := by omega
    have p1 := packer_storedBlock_h X (by omega) 1 (by omega) nl r (by omega) (8 * m) m m' hkl.symm rfl (by rw [hm', hstL, ← hX, ← hr, List.length_append, length_blkS]; omega)
    rw [hr, hX, ← hstL, ← hX, ← hr] at p1
    iterate 5 (first | refine wA ?_ | refine wB ?_ | refine wC rfl ?_ | refine wD rfl ?_ | refine wE ?_ | refine wF (by omega) ?_ | ((first | refine wG ?_ | refine wH ?_ | refine wI ?_ | refine wJ ?_ | refine wK ?_ | refine wL ?_); simp (disch := omega) only [wP, wZ, undef, seval, if_pos, if_neg, aStore, frz, AV.flat, ↓reduceIte, ne_eq, reduceCtorEq, ByteArray.size, List.length_map, dk]))
    refine SWp.le (le_mk (N := 16) (gc := 2000) (l := [(1, .sl nl none (r.map u8)), (2, .op 2 1 0)]) (h := [(2, 1, .row false [.op 1000 0 0]), (1000, 0, .row false (wrR g m (8 * m))), (1001, g, .row (nl0 m) (X.map u8))]) rfl ?_ ?_ ?_) ?_
    · simp (disch := omega) only [wP, wZ, undef, seval, if_pos, if_neg, aStore, frz, AV.flat, ↓reduceIte, ne_eq, reduceCtorEq, ByteArray.size]
      omega
    iterate 2 (case _ => simp (disch := omega) only [wP, wZ, undef, seval, if_pos, if_neg, aStore, frz, AV.flat, ↓reduceIte, ne_eq, reduceCtorEq, ByteArray.size])
    refine SWp.renew 1001 g (o := .row (nl0 m) (X.map u8)) (by simp (disch := omega) only [wP, wZ, undef, seval, if_pos, if_neg, aStore, frz, AV.flat, ↓reduceIte, ne_eq, reduceCtorEq, ByteArray.size]) ?_
    refine SWp.le (le_mk (N := 16) (gc := 2001) (l := [(1, .sl nl none (r.map u8)), (2, .op 2 1 0)]) (h := [(2, 1, .row false [.op 1000 0 0]), (1000, 0, .row false (wrR 2000 m (8 * m))), (1001, 2000, .row (nl0 m) (X.map u8))]) rfl ?_ ?_ ?_) ?_
    iterate 3 (case _ => simp (disch := omega) only [wP, wZ, undef, seval, if_pos, if_neg, aStore, frz, AV.flat, ↓reduceIte, ne_eq, reduceCtorEq, ByteArray.size, rgn_eq, wrR, rgH_at])
    repeat (first | refine wA ?_ | refine wB ?_ | refine wC rfl ?_ | refine wD rfl ?_ | refine wE ?_ | refine wF (by omega) ?_ | ((first | refine wG ?_ | refine wH ?_ | refine wI ?_ | refine wJ ?_ | refine wK ?_ | refine wL ?_); simp (disch := omega) only [wP, wZ, undef, seval, if_pos, if_neg, aStore, frz, AV.flat, ↓reduceIte, ne_eq, reduceCtorEq, ByteArray.size, List.length_map]))
    refine goC_h [(1000, 0), (1001, 2000)] 3000 p1 (by simp) (by simp) ?_ ?_ ?_
    iterate 2 (case _ => simp (disch := omega) only [wP, wZ, undef, seval, if_pos, if_neg, aStore, frz, AV.flat, ↓reduceIte, ne_eq, reduceCtorEq, ByteArray.size, wrR])
    repeat (first | refine wA ?_ | refine wB ?_ | refine wC rfl ?_ | refine wD rfl ?_ | refine wE ?_ | refine wF (by omega) ?_ | ((first | refine wG ?_ | refine wH ?_ | refine wI ?_ | refine wJ ?_ | refine wK ?_ | refine wL ?_); simp (disch := omega) only [wP, wZ, undef, seval, if_pos, if_neg, aStore, frz, AV.flat, ↓reduceIte, ne_eq, reduceCtorEq, ByteArray.size, wrR, iR]))
end Go.Proofs.YtbmppmdklappiaaDoor.Aw
namespace Go.Proofs.YtbmppmdklappiaaDoor.Aw
open Go
set_option linter.unusedSimpArgs false
set_option linter.unusedVariables false
def fixB (P : List (Nat × Nat)) : List Nat := digB 1 1 ++ digB 1 2 ++ pcsB fxL fxD P
theorem fx_len : 286 ≤ fxL.length ∧ 30 ≤ fxD.length := by decide +kernel
set_option maxHeartbeats 1000000 in
set_option maxRecDepth 100000 in
theorem packer_fixed_h [Tabs Tryd.prog] (L : List Nat) (hl : L.length ≤ 200000) (hL : ∀ x ∈ L, x < 2) (nl : Bool) (P : List (Nat × Nat)) (hP : P.length ≤ 20000) (hok : ∀ p ∈ P, pcOk p) (i m : Nat) (hi : i = L.length) (hm : m = (L.length + 7) / 8) (j : Nat) (hj : j = (L ++ fixB P).length) :
    HCon Tryd.prog n_deflate_packer_fixed [.agg [.op 1000 0 0], .sl nl (some 2) (P.map pcA)] [.row false (wrR 0 m i), .row (nl0 m) ((bytesB L).map u8)] (.tup [])
      [(1000, 0, .row false (wrR (126 + (KE + 1)) ((j + 7) / 8) j)), (1001, 126 + (KE + 1), .row (nl0 ((j + 7) / 8)) ((bytesB (L ++ fixB P)).map u8))] (126 + (KE + 2)) := by
  refine HCon.of' mix Tryd.func24 rfl Tryd.ntmps24 e_deflate_packer_fixed r_deflate_packer_fixed (by simp) ?_ wr_gl ?_
  · simp only [AV.gl.glL, AV.gl, and_true, true_and]
    exact ⟨by omega, glL_of_free _ _ free_pcs⟩
  unfold s_deflate_packer_fixed
  obtain ⟨X, hX⟩ : ∃ X, X = L ++ (digB 1 1 ++ digB 1 2) := ⟨_, rfl⟩
  obtain ⟨Y, hY⟩ : ∃ Y, Y = L ++ fixB P := ⟨_, rfl⟩
  have hXl : X.length = i + 1 + 2 := by rw [hX, List.length_append, List.length_append, length_digB, length_digB, hi]
  have hX2 : ∀ x ∈ X, x < 2 := fun x hx => by
    rw [hX] at hx
    rcases List.mem_append.1 hx with hx | hx
    · exact hL x hx
    · rcases List.mem_append.1 hx with hx | hx <;> exact digB_lt x hx
  have hYe : X ++ pcsB fxL fxD P = Y := by rw [hX, hY, fixB]; simp [List.append_assoc]
  have p1 := packer_begin_h L (by omega) hL 1 1 (by omega) (by omega) i m hi hm
  have p2 := packer_pieces_h X (by omega) hX2 nl P hP hok fxL fxD fxL_ok fxD_ok fx_len.1 fx_len.2 (i + 1 + 2) ((i + 1 + 2 + 7) / 8) hXl.symm (by rw [hXl]) j (by rw [hYe, hj, hY])
  have pf := fixedCodes_c
  rw [hYe] at p2
  rw [← hY]
  rw [← hX] at p1
  have hrF : ∀ ρ, ren ρ (cdsA fxL fxD) = cdsA fxL fxD := fun ρ => ren_free ρ _ free_cdsA
  obtain ⟨F, hF⟩ : ∃ F, F = cdsA fxL fxD := ⟨_, rfl⟩
  rw [← hF] at p2 pf hrF
  obtain ⟨A, hA⟩ : ∃ A, A = P.map pcA := ⟨_, rfl⟩
  have hrA : ∀ ρ, ren.renL ρ A = A := fun ρ => by rw [hA]; exact renL_free ρ _ free_pcs
  rw [← hA] at p2 ⊢
  repeat (first | refine wA ?_ | refine wB ?_ | refine wC rfl ?_ | refine wD rfl ?_ | refine wE ?_ | refine wF (by omega) ?_ | ((first | refine wG ?_ | refine wH ?_ | refine wI ?_ | refine wJ ?_ | refine wK ?_ | refine wL ?_); simp (disch := omega) only [wP, wZ, undef, seval, if_pos, if_neg, aStore, frz, AV.flat, ↓reduceIte, ne_eq, reduceCtorEq, ByteArray.size]))
  refine goC_h [(1000, 0), (1001, 0)] 2000 p1 (by simp) (by simp) ?_ ?_ ?_
  iterate 2 (case _ => simp (disch := omega) only [wP, wZ, undef, seval, if_pos, if_neg, aStore, frz, AV.flat, ↓reduceIte, ne_eq, reduceCtorEq, ByteArray.size, wrR, iR])
  repeat (first | refine wA ?_ | refine wB ?_ | refine wC rfl ?_ | refine wD rfl ?_ | refine wE ?_ | refine wF (by omega) ?_ | ((first | refine wG ?_ | refine wH ?_ | refine wI ?_ | refine wJ ?_ | refine wK ?_ | refine wL ?_); simp (disch := omega) only [wP, wZ, undef, seval, if_pos, if_neg, aStore, frz, AV.flat, ↓reduceIte, ne_eq, reduceCtorEq, ByteArray.size, wrR, iR]))
  refine goC_p _ (.inl ⟨rfl, pf⟩) ?_
  repeat (first | refine wA ?_ | refine wB ?_ | refine wC rfl ?_ | refine wD rfl ?_ | refine wE ?_ | refine wF (by omega) ?_ | ((first | refine wG ?_ | refine wH ?_ | refine wI ?_ | refine wJ ?_ | refine wK ?_ | refine wL ?_); simp (disch := omega) only [wP, wZ, undef, seval, if_pos, if_neg, aStore, frz, AV.flat, ↓reduceIte, ne_eq, reduceCtorEq, ByteArray.size, wrR, iR]))
  refine goC_h [(1000, 0), (1001, 125)] 3000 p2 (by simp) (by simp) ?_ ?_ ?_
  iterate 2 (case _ => simp (disch := omega) only [wP, wZ, undef, seval, if_pos, if_neg, aStore, frz, AV.flat, ↓reduceIte, ne_eq, reduceCtorEq, ByteArray.size, wrR, iR, hrF, hrA])
  repeat (first | refine wA ?_ | refine wB ?_ | refine wC rfl ?_ | refine wD rfl ?_ | refine wE ?_ | refine wF (by omega) ?_ | ((first | refine wG ?_ | refine wH ?_ | refine wI ?_ | refine wJ ?_ | refine wK ?_ | refine wL ?_); simp (disch := omega) only [wP, wZ, undef, seval, if_pos, if_neg, aStore, frz, AV.flat, ↓reduceIte, ne_eq, reduceCtorEq, ByteArray.size, wrR, iR]))
end Go.Proofs.YtbmppmdklappiaaDoor.Aw
namespace Go.Proofs.YtbmppmdklappiaaDoor.Aw
open Go
set_option linter.unusedSimpArgs false
set_option linter.unusedVariables false
def cutN (l : List Nat) (q : Nat) : Nat → Nat
  | 0 => 0
  | n + 1 => if q < n + 1 ∧ l.getD n 0 = 0 then cutN l q n else n + 1
def cutM (l : List Nat) (q : Nat) : List Nat := l.take (cutN l q l.length)
theorem cutN_le {l : List Nat} {q : Nat} : ∀ {n : Nat}, cutN l q n ≤ n
  | 0 => Nat.le_refl _
  | n + 1 => by
    rw [cutN]
    split
    · have := cutN_le (l := l) (q := q) (n := n); omega
    · exact Nat.le_refl _
theorem cutN_ge {l : List Nat} {q : Nat} : ∀ {n : Nat}, q ≤ n → q ≤ cutN l q n
  | 0, h => by rw [cutN]; exact h
  | n + 1, h => by
    rw [cutN]
    split
    · rename_i c; exact cutN_ge (by omega)
    · exact h
set_option maxRecDepth 100000 in
theorem cut_c [Tabs Tryd.prog] (nl : Bool) (l : List Nat) (hl : l.length ≤ 1000) (q : Nat) (hq : q ≤ 1000) : Con Tryd.prog n_deflate_cut [.sl nl none (l.map nA), .sc (.int .i64 (q : Int))] (.sl nl none ((cutM l q).map nA)) := by
  refine Con.of' mix Tryd.func82 rfl Tryd.ntmps82 e_deflate_cut r_deflate_cut (by simp) (by simp only [AV.free, AV.free.freeL, free_nA, Bool.and_self]) (by simp only [AV.free, free_nA]) ?_
  unfold s_deflate_cut
  obtain ⟨r, hr⟩ : ∃ r, r = cutN l q l.length := ⟨_, rfl⟩
  have hrl : r ≤ l.length := by rw [hr]; exact cutN_le
  have hM : (cutM l q).map nA = (l.map nA).take r := by rw [cutM, ← hr, take_nA]
  rw [hM]
  repeat (first | refine wA ?_ | refine wB ?_ | refine wC rfl ?_ | refine wD rfl ?_ | refine wE ?_ | refine wF (by omega) ?_ | ((first | refine wG ?_ | refine wH ?_ | refine wI ?_ | refine wJ ?_ | refine wK ?_ | refine wL ?_); simp (disch := omega) only [wP, wZ, undef, seval, if_pos, if_neg, aStore, frz, AV.flat, ↓reduceIte, ne_eq, reduceCtorEq, ByteArray.size, List.length_map]))
  refine SWp.loop (α := Nat) (fun n => mk 24 0 [(0, .sl nl none (l.map nA)), (1, .sc (.int .i64 (q : Int))), (5, int n)] [])
    (fun n => n ≤ l.length ∧ r = cutN l q n) (fun n => n) l.length ⟨Nat.le_refl _, hr⟩ (le_mk rfl ?_ ?_ ?_) ?_
  · exact Nat.le_refl _
  iterate 2 (case _ => simp (disch := omega) only [wP, wZ, undef, seval, if_pos, if_neg, aStore, frz, AV.flat, ↓reduceIte, ne_eq, reduceCtorEq, ByteArray.size])
  rintro n ⟨hn, hrn⟩ -
  by_cases c1 : q < n
  · have d1 : decide ((q : Int) < (n : Int)) = true := decide_eq_true (by omega)
    obtain ⟨k, rfl⟩ : ∃ k, n = k + 1 := ⟨n - 1, by omega⟩
    have ek : ((k + 1 : Nat) : Int) - 1 = (k : Int) := by omega
    have hg : (l.map nA).getD k .junk = .sc (.int .i64 (l.getD k 0 : Int)) := getD_nA (by omega)
    rw [cutN] at hrn
    obtain ⟨n1, hn1⟩ : ∃ x, x = k + 1 := ⟨_, rfl⟩
    rw [← hn1] at d1 ek ⊢
    by_cases c2 : l.getD k 0 = 0
    · have d2 : decide ((l.getD k 0 : Int) = 0) = true := decide_eq_true (by omega)
      rw [if_pos ⟨c1, c2⟩] at hrn
      repeat (first | refine wA ?_ | refine wB ?_ | refine wC rfl ?_ | refine wD rfl ?_ | refine wE ?_ | refine wF (by omega) ?_ | ((first | refine wG ?_ | refine wH ?_ | refine wI ?_ | refine wJ ?_ | refine wK ?_ | refine wL ?_); simp (disch := omega) only [wP, wZ, undef, seval, if_pos, if_neg, aStore, frz, AV.flat, ↓reduceIte, ne_eq, reduceCtorEq, ByteArray.size, d1, ek, hg, d2, List.length_map]))
      refine At.of k ⟨by omega, hrn⟩ (by omega) rfl rfl (Nat.le_refl _) ?_ ?_
      iterate 2 (case _ => simp (disch := omega) only [wP, wZ, undef, seval, if_pos, if_neg, aStore, frz, AV.flat, ↓reduceIte, ne_eq, reduceCtorEq, ByteArray.size])
    · have d2 : decide ((l.getD k 0 : Int) = 0) = false := decide_eq_false (by omega)
      rw [if_neg (fun h => c2 h.2), ← hn1] at hrn
      repeat (first | refine wA ?_ | refine wB ?_ | refine wC rfl ?_ | refine wD rfl ?_ | refine wE ?_ | refine wF (by omega) ?_ | ((first | refine wG ?_ | refine wH ?_ | refine wI ?_ | refine wJ ?_ | refine wK ?_ | refine wL ?_); simp (disch := omega) only [wP, wZ, undef, seval, if_pos, if_neg, aStore, frz, AV.flat, ↓reduceIte, ne_eq, reduceCtorEq, ByteArray.size, d1, ek, hg, d2, List.length_map, hrn]))
  · have d1 : decide ((q : Int) < (n : Int)) = false := decide_eq_false (by omega)
    have hrn' : r = n := by
      rw [hrn]
      cases n with
      | zero => rfl
      | succ k => rw [cutN, if_neg (fun h => c1 h.1)]
    repeat (first | refine wA ?_ | refine wB ?_ | refine wC rfl ?_ | refine wD rfl ?_ | refine wE ?_ | refine wF (by omega) ?_ | ((first | refine wG ?_ | refine wH ?_ | refine wI ?_ | refine wJ ?_ | refine wK ?_ | refine wL ?_); simp (disch := omega) only [wP, wZ, undef, seval, if_pos, if_neg, aStore, frz, AV.flat, ↓reduceIte, ne_eq, reduceCtorEq, ByteArray.size, d1, List.length_map, hrn']))
def sameN (l : List Nat) (a : Nat) : Nat → Nat → Nat
  | 0, n => n
  | f + 1, n => if a + n < l.length ∧ l.getD (a + n) 0 = l.getD a 0 then sameN l a f (n + 1) else n
theorem sameN_facts {l : List Nat} {a : Nat} : ∀ {f n : Nat}, n ≤ sameN l a f n ∧ (a + n ≤ l.length → a + sameN l a f n ≤ l.length) ∧ ∀ i, n ≤ i → i < sameN l a f n → l.getD (a + i) 0 = l.getD a 0
  | 0, n => ⟨Nat.le_refl _, fun h => h, fun i h1 h2 => by rw [sameN] at h2; omega⟩
  | f + 1, n => by
    rw [sameN]
    split
    · rename_i c
      obtain ⟨h1, h2, h3⟩ := sameN_facts (l := l) (a := a) (f := f) (n := n + 1)
      refine ⟨by omega, fun _ => h2 (by omega), fun i hi hi2 => ?_⟩
      by_cases e : i = n
      · rw [e]; exact c.2
      · exact h3 i (by omega) hi2
    · exact ⟨Nat.le_refl _, fun h => h, fun i h1 h2 => by omega⟩
def tlN (l : List Nat) (a : Nat) : Nat := sameN l a l.length 1
def tlA (l : List Nat) (a : Nat) : (Nat × Nat × Nat) × Nat :=
  if l.getD a 0 = 0 ∧ 11 ≤ tlN l a then ((18, min (tlN l a) 138 - 11, 7), min (tlN l a) 138)
  else if l.getD a 0 = 0 ∧ 3 ≤ tlN l a then ((17, min (tlN l a) 10 - 3, 3), min (tlN l a) 10)
  else if 0 < a ∧ l.getD a 0 = l.getD (a - 1) 0 ∧ 3 ≤ tlN l a then ((16, min (tlN l a) 6 - 3, 2), min (tlN l a) 6)
  else ((l.getD a 0, 0, 0), 1)
def tlV (x : (Nat × Nat × Nat) × Nat) : AV := .tup [syA x.1, .sc (.int .i64 (x.2 : Int))]
set_option maxHeartbeats 1000000 in
set_option maxRecDepth 100000 in
theorem tellAt_c [Tabs Tryd.prog] (nl : Bool) (l : List Nat) (hl : l.length ≤ 1000) (h15 : ∀ x ∈ l, x ≤ 15) (a : Nat) (ha : a < l.length) : Con Tryd.prog n_deflate_tellAt [.sl nl none (l.map nA), .sc (.int .i64 (a : Int))] (tlV (tlA l a)) := by
  refine Con.of' mix Tryd.func106 rfl Tryd.ntmps106 e_deflate_tellAt r_deflate_tellAt (by simp) (by simp only [AV.free, AV.free.freeL, free_nA, Bool.and_self]) rfl ?_
  unfold s_deflate_tellAt
  obtain ⟨R, hR⟩ : ∃ R, R = tlN l a := ⟨_, rfl⟩
  have hf := sameN_facts (l := l) (a := a) (f := l.length) (n := 1)
  rw [← tlN, ← hR] at hf
  obtain ⟨hf1, hf2, -⟩ := hf
  have hf2 := hf2 (by omega)
  obtain ⟨x, hx⟩ : ∃ x, x = l.getD a 0 := ⟨_, rfl⟩
  have hgx : (l.map nA).getD a .junk = .sc (.int .i64 (x : Int)) := by rw [hx]; exact getD_nA ha
  have hO : tlA l a = if x = 0 ∧ 11 ≤ R then ((18, min R 138 - 11, 7), min R 138) else if x = 0 ∧ 3 ≤ R then ((17, min R 10 - 3, 3), min R 10) else if 0 < a ∧ x = l.getD (a - 1) 0 ∧ 3 ≤ R then ((16, min R 6 - 3, 2), min R 6) else ((x, 0, 0), 1) := by rw [tlA, ← hx, ← hR]
  rw [hO]
  repeat (first | refine wA ?_ | refine wB ?_ | refine wC rfl ?_ | refine wD rfl ?_ | refine wE ?_ | refine wF (by omega) ?_ | ((first | refine wG ?_ | refine wH ?_ | refine wI ?_ | refine wJ ?_ | refine wK ?_ | refine wL ?_); simp (disch := omega) only [wP, wZ, undef, seval, if_pos, if_neg, aStore, frz, AV.flat, ↓reduceIte, ne_eq, reduceCtorEq, ByteArray.size]))
  refine SWp.loop (α := Nat) (fun n => mk 90 1 [(0, .sl nl none (l.map nA)), (1, .sc (.int .i64 (a : Int))), (4, .op 4 0 0), (6, int n)] [(4, 0, .row false [int 0, int 0, int 0])])
    (fun n => 1 ≤ n ∧ n ≤ 1000 ∧ a + n ≤ l.length ∧ ∃ f, l.length ≤ a + n + f ∧ R = sameN l a f n) (fun n => l.length - n) 1 ⟨Nat.le_refl _, by omega, by omega, l.length, by omega, hR⟩ (le_mk rfl ?_ ?_ ?_) ?_
  · exact Nat.le_refl _
  iterate 2 (case _ => simp (disch := omega) only [wP, wZ, undef, seval, if_pos, if_neg, aStore, frz, AV.flat, ↓reduceIte, ne_eq, reduceCtorEq, ByteArray.size, iR])
  rintro n ⟨hn1, hn2, hn3, f, hf3, hRf⟩ -
  obtain ⟨t, ht⟩ : ∃ t, t = a + n := ⟨_, rfl⟩
  have et : (a : Int) + (n : Int) = (t : Int) := by omega
  by_cases c0 : t < l.length ∧ l.getD t 0 = x
  · obtain ⟨c1, c2⟩ := c0
    have d1 : decide ((t : Int) < (l.length : Int)) = true := decide_eq_true (by omega)
    have hg : (l.map nA).getD t .junk = .sc (.int .i64 (l.getD t 0 : Int)) := getD_nA (by omega)
    obtain ⟨f, rfl⟩ : ∃ k, f = k + 1 := ⟨f - 1, by omega⟩
    rw [sameN, ← ht, c2, ← hx, if_pos ⟨c1, rfl⟩] at hRf
    rw [c2] at hg
    repeat (first | refine wA ?_ | refine wB ?_ | refine wC rfl ?_ | refine wD rfl ?_ | refine wE ?_ | refine wF (by omega) ?_ | ((first | refine wG ?_ | refine wH ?_ | refine wI ?_ | refine wJ ?_ | refine wK ?_ | refine wL ?_); simp (disch := omega) only [wP, wZ, undef, seval, if_pos, if_neg, aStore, frz, AV.flat, ↓reduceIte, ne_eq, reduceCtorEq, ByteArray.size, et, d1, hg, hgx, List.length_map]))
    refine At.of (n + 1) ⟨by omega, by omega, by omega, f, by omega, hRf⟩ (by omega) rfl rfl (Nat.le_refl _) ?_ ?_
    iterate 2 (case _ => simp (disch := omega) only [wP, wZ, undef, seval, if_pos, if_neg, aStore, frz, AV.flat, ↓reduceIte, ne_eq, reduceCtorEq, ByteArray.size, iR])
  have hRn : R = n := by
    rw [hRf]
    cases f with
    | zero => rfl
    | succ f => rw [sameN, ← ht, ← hx, if_neg c0]
  subst hRn
  clear hO hR
  have hla : (a : Int) < (l.length : Int) := Int.ofNat_lt.2 ha
  by_cases c1 : t < l.length
  have d1 : decide ((t : Int) < (l.length : Int)) = true := decide_eq_true (by omega)
  have hg : (l.map nA).getD t .junk = .sc (.int .i64 (l.getD t 0 : Int)) := getD_nA (by omega)
  obtain ⟨y, hy⟩ : ∃ y, y = l.getD t 0 := ⟨_, rfl⟩
  rw [← hy] at hg
  have d2 : decide ((y : Int) = (x : Int)) = false := decide_eq_false (fun h => c0 ⟨c1, by omega⟩)
  iterate 5 (first | refine wA ?_ | refine wB ?_ | refine wC rfl ?_ | refine wD rfl ?_ | refine wE ?_ | refine wF (by omega) ?_ | ((first | refine wG ?_ | refine wH ?_ | refine wI ?_ | refine wJ ?_ | refine wK ?_ | refine wL ?_); simp (disch := omega) only [wP, wZ, undef, seval, if_pos, if_neg, aStore, frz, AV.flat, ↓reduceIte, ne_eq, reduceCtorEq, ByteArray.size, et, d1, hg, hgx, d2, hla, List.length_map]))
  refine SWp.le (le_mk (N := 90) (gc := 1) (l := [(0, .sl nl none (l.map nA)), (1, .sc (.int .i64 (a : Int))), (4, .op 4 0 0), (6, int R)]) (h := [(4, 0, .row false [int 0, int 0, int 0])]) rfl ?_ ?_ ?_) ?_
  iterate 3 (case _ => simp (disch := omega) only [wP, wZ, undef, seval, if_pos, if_neg, aStore, frz, AV.flat, ↓reduceIte, ne_eq, reduceCtorEq, ByteArray.size, iR])
  rotate_left
  have d1 : decide ((t : Int) < (l.length : Int)) = false := decide_eq_false (by omega)
  iterate 4 (first | refine wA ?_ | refine wB ?_ | refine wC rfl ?_ | refine wD rfl ?_ | refine wE ?_ | refine wF (by omega) ?_ | ((first | refine wG ?_ | refine wH ?_ | refine wI ?_ | refine wJ ?_ | refine wK ?_ | refine wL ?_); simp (disch := omega) only [wP, wZ, undef, seval, if_pos, if_neg, aStore, frz, AV.flat, ↓reduceIte, ne_eq, reduceCtorEq, ByteArray.size, et, d1, List.length_map]))
  refine SWp.le (le_mk (N := 90) (gc := 1) (l := [(0, .sl nl none (l.map nA)), (1, .sc (.int .i64 (a : Int))), (4, .op 4 0 0), (6, int R)]) (h := [(4, 0, .row false [int 0, int 0, int 0])]) rfl ?_ ?_ ?_) ?_
  iterate 3 (case _ => simp (disch := omega) only [wP, wZ, undef, seval, if_pos, if_neg, aStore, frz, AV.flat, ↓reduceIte, ne_eq, reduceCtorEq, ByteArray.size, iR])
  all_goals
    clear d1
    have m1 : (if (138 : Int) < (R : Int) then 138 else (R : Int)) = ((min R 138 : Nat) : Int) := by split <;> omega
    have m2 : (if (10 : Int) < (R : Int) then 10 else (R : Int)) = ((min R 10 : Nat) : Int) := by split <;> omega
    have m3 : (if (6 : Int) < (R : Int) then 6 else (R : Int)) = ((min R 6 : Nat) : Int) := by split <;> omega
    by_cases x0 : x = 0
    · have e1 : decide ((x : Int) = 0) = true := decide_eq_true (by omega)
      by_cases r1 : 11 ≤ R
      · have e2 : decide ((11 : Int) ≤ (R : Int)) = true := decide_eq_true (by omega)
        obtain ⟨u, hu⟩ : ∃ u, u = min R 138 := ⟨_, rfl⟩
        rw [← hu] at m1
        have eu : (u : Int) - 11 = ((u - 11 : Nat) : Int) := by omega
        rw [if_pos (show x = 0 ∧ 11 ≤ R from ⟨x0, r1⟩), ← hu]
        repeat (first | refine wA ?_ | refine wB ?_ | refine wC rfl ?_ | refine wD rfl ?_ | refine wE ?_ | refine wF (by omega) ?_ | ((first | refine wG ?_ | refine wH ?_ | refine wI ?_ | refine wJ ?_ | refine wK ?_ | refine wL ?_); simp (disch := omega) only [wP, wZ, undef, seval, if_pos, if_neg, aStore, frz, AV.flat, ↓reduceIte, ne_eq, reduceCtorEq, ByteArray.size, hgx, e1, e2, m1, eu, tlV, syA, iR, List.length_map]))
      have e2 : decide ((11 : Int) ≤ (R : Int)) = false := decide_eq_false (by omega)
      rw [if_neg (show ¬(x = 0 ∧ 11 ≤ R) from fun h => r1 h.2)]
      by_cases r2 : 3 ≤ R
      · have e3 : decide ((3 : Int) ≤ (R : Int)) = true := decide_eq_true (by omega)
        rw [show min R 10 = R by omega] at m2
        have eu : (R : Int) - 3 = ((R - 3 : Nat) : Int) := by omega
        rw [if_pos (show x = 0 ∧ 3 ≤ R from ⟨x0, r2⟩)]
        repeat (first | refine wA ?_ | refine wB ?_ | refine wC rfl ?_ | refine wD rfl ?_ | refine wE ?_ | refine wF (by omega) ?_ | ((first | refine wG ?_ | refine wH ?_ | refine wI ?_ | refine wJ ?_ | refine wK ?_ | refine wL ?_); simp (disch := omega) only [wP, wZ, undef, seval, if_pos, if_neg, aStore, frz, AV.flat, ↓reduceIte, ne_eq, reduceCtorEq, ByteArray.size, hgx, e1, e2, e3, m2, eu, tlV, syA, iR, List.length_map]))
      have e3 : decide ((3 : Int) ≤ (R : Int)) = false := decide_eq_false (by omega)
      rw [if_neg (show ¬(x = 0 ∧ 3 ≤ R) from fun h => r2 h.2), if_neg (show ¬(0 < a ∧ x = l.getD (a - 1) 0 ∧ 3 ≤ R) from fun h => r2 h.2.2)]
      by_cases a0 : 0 < a
      · have e4 : decide ((0 : Int) < (a : Int)) = true := decide_eq_true (by omega)
        obtain ⟨w, hw⟩ : ∃ w, w = a - 1 := ⟨_, rfl⟩
        have ew : (a : Int) - 1 = (w : Int) := by omega
        have hgw : (l.map nA).getD w .junk = .sc (.int .i64 (l.getD w 0 : Int)) := getD_nA (by omega)
        obtain ⟨v, hv⟩ : ∃ v, v = l.getD w 0 := ⟨_, rfl⟩
        rw [← hv] at hgw
        by_cases v0 : x = v
        · have e5 : decide ((x : Int) = (v : Int)) = true := decide_eq_true (by omega)
          repeat (first | refine wA ?_ | refine wB ?_ | refine wC rfl ?_ | refine wD rfl ?_ | refine wE ?_ | refine wF (by omega) ?_ | ((first | refine wG ?_ | refine wH ?_ | refine wI ?_ | refine wJ ?_ | refine wK ?_ | refine wL ?_); simp (disch := omega) only [wP, wZ, undef, seval, if_pos, if_neg, aStore, frz, AV.flat, ↓reduceIte, ne_eq, reduceCtorEq, ByteArray.size, hgx, hgw, e1, e2, e3, e4, e5, ew, tlV, syA, iR, List.length_map]))
        · have e5 : decide ((x : Int) = (v : Int)) = false := decide_eq_false (by omega)
          repeat (first | refine wA ?_ | refine wB ?_ | refine wC rfl ?_ | refine wD rfl ?_ | refine wE ?_ | refine wF (by omega) ?_ | ((first | refine wG ?_ | refine wH ?_ | refine wI ?_ | refine wJ ?_ | refine wK ?_ | refine wL ?_); simp (disch := omega) only [wP, wZ, undef, seval, if_pos, if_neg, aStore, frz, AV.flat, ↓reduceIte, ne_eq, reduceCtorEq, ByteArray.size, hgx, hgw, e1, e2, e3, e4, e5, ew, tlV, syA, iR, List.length_map]))
      · have e4 : decide ((0 : Int) < (a : Int)) = false := decide_eq_false (by omega)
        repeat (first | refine wA ?_ | refine wB ?_ | refine wC rfl ?_ | refine wD rfl ?_ | refine wE ?_ | refine wF (by omega) ?_ | ((first | refine wG ?_ | refine wH ?_ | refine wI ?_ | refine wJ ?_ | refine wK ?_ | refine wL ?_); simp (disch := omega) only [wP, wZ, undef, seval, if_pos, if_neg, aStore, frz, AV.flat, ↓reduceIte, ne_eq, reduceCtorEq, ByteArray.size, hgx, e1, e2, e3, e4, tlV, syA, iR, List.length_map]))
    have e1 : decide ((x : Int) = 0) = false := decide_eq_false (by omega)
    rw [if_neg (show ¬(x = 0 ∧ 11 ≤ R) from fun h => x0 h.1), if_neg (show ¬(x = 0 ∧ 3 ≤ R) from fun h => x0 h.1)]
    by_cases a0 : 0 < a
    · have e4 : decide ((0 : Int) < (a : Int)) = true := decide_eq_true (by omega)
      obtain ⟨w, hw⟩ : ∃ w, w = a - 1 := ⟨_, rfl⟩
      have ew : (a : Int) - 1 = (w : Int) := by omega
      have hgw : (l.map nA).getD w .junk = .sc (.int .i64 (l.getD w 0 : Int)) := getD_nA (by omega)
      obtain ⟨v, hv⟩ : ∃ v, v = l.getD w 0 := ⟨_, rfl⟩
      rw [← hv] at hgw
      rw [← hw, ← hv]
      by_cases v0 : x = v
      · have e5 : decide ((x : Int) = (v : Int)) = true := decide_eq_true (by omega)
        by_cases r2 : 3 ≤ R
        · have e3 : decide ((3 : Int) ≤ (R : Int)) = true := decide_eq_true (by omega)
          obtain ⟨u, hu⟩ : ∃ u, u = min R 6 := ⟨_, rfl⟩
          rw [← hu] at m3
          have eu : (u : Int) - 3 = ((u - 3 : Nat) : Int) := by omega
          rw [if_pos (show 0 < a ∧ x = v ∧ 3 ≤ R from ⟨a0, v0, r2⟩), ← hu]
          repeat (first | refine wA ?_ | refine wB ?_ | refine wC rfl ?_ | refine wD rfl ?_ | refine wE ?_ | refine wF (by omega) ?_ | ((first | refine wG ?_ | refine wH ?_ | refine wI ?_ | refine wJ ?_ | refine wK ?_ | refine wL ?_); simp (disch := omega) only [wP, wZ, undef, seval, if_pos, if_neg, aStore, frz, AV.flat, ↓reduceIte, ne_eq, reduceCtorEq, ByteArray.size, hgx, hgw, e1, e3, e4, e5, m3, eu, ew, tlV, syA, iR, List.length_map]))
        · have e3 : decide ((3 : Int) ≤ (R : Int)) = false := decide_eq_false (by omega)
          rw [if_neg (show ¬(0 < a ∧ x = v ∧ 3 ≤ R) from fun h => r2 h.2.2)]
          repeat (first | refine wA ?_ | refine wB ?_ | refine wC rfl ?_ | refine wD rfl ?_ | refine wE ?_ | refine wF (by omega) ?_ | ((first | refine wG ?_ | refine wH ?_ | refine wI ?_ | refine wJ ?_ | refine wK ?_ | refine wL ?_); simp (disch := omega) only [wP, wZ, undef, seval, if_pos, if_neg, aStore, frz, AV.flat, ↓reduceIte, ne_eq, reduceCtorEq, ByteArray.size, hgx, hgw, e1, e3, e4, e5, ew, tlV, syA, iR, List.length_map]))
      · have e5 : decide ((x : Int) = (v : Int)) = false := decide_eq_false (by omega)
        rw [if_neg (show ¬(0 < a ∧ x = v ∧ 3 ≤ R) from fun h => v0 h.2.1)]
        repeat (first | refine wA ?_ | refine wB ?_ | refine wC rfl ?_ | refine wD rfl ?_ | refine wE ?_ | refine wF (by omega) ?_ | ((first | refine wG ?_ | refine wH ?_ | refine wI ?_ | refine wJ ?_ | refine wK ?_ | refine wL ?_); simp (disch := omega) only [wP, wZ, undef, seval, if_pos, if_neg, aStore, frz, AV.flat, ↓reduceIte, ne_eq, reduceCtorEq, ByteArray.size, hgx, hgw, e1, e4, e5, ew, tlV, syA, iR, List.length_map]))
    · have e4 : decide ((0 : Int) < (a : Int)) = false := decide_eq_false (by omega)
      rw [if_neg (show ¬(0 < a ∧ x = l.getD (a - 1) 0 ∧ 3 ≤ R) from fun h => a0 h.1)]
      repeat (first | refine wA ?_ | refine wB ?_ | refine wC rfl ?_ | refine wD rfl ?_ | refine wE ?_ | refine wF (by omega) ?_ | ((first | refine wG ?_ | refine wH ?_ | refine wI ?_ | refine wJ ?_ | refine wK ?_ | refine wL ?_); simp (disch := omega) only [wP, wZ, undef, seval, if_pos, if_neg, aStore, frz, AV.flat, ↓reduceIte, ne_eq, reduceCtorEq, ByteArray.size, hgx, e1, e4, tlV, syA, iR, List.length_map]))
end Go.Proofs.YtbmppmdklappiaaDoor.Aw
