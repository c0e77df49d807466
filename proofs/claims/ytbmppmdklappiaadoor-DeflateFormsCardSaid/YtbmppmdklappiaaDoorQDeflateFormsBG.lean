/- Parts of the proof of DeflateForms. -/
import Derived.Test.YtbmppmdklappiaaDoorQDeflateFormsBF
import Derived.Test.YtbmppmdklappiaaDoorQDeflateFormsBE
import Derived.Test.YtbmppmdklappiaaDoorQDeflateFormsBD
import Derived.Test.YtbmppmdklappiaaDoorQDeflateFormsAV
import Derived.Test.YtbmppmdklappiaaDoorRows
import Derived.MakeChecks
import Derived.Lib.LaidTab
namespace Go.Proofs.YtbmppmdklappiaaDoor.Aw
open Go
set_option linter.unusedSimpArgs false
set_option linter.unusedVariables false
structure TlOk (s : Nat × Nat × Nat) : Prop where
  num : s.1 < 19
  more : s.2.1 ≤ 127
  bits : s.2.2 ≤ 7
theorem tlA_ok {l : List Nat} (h15 : ∀ x ∈ l, x ≤ 15) {a : Nat} (ha : a < l.length) : TlOk (tlA l a).1 ∧ 1 ≤ (tlA l a).2 ∧ a + (tlA l a).2 ≤ l.length := by
  obtain ⟨h1, h2, -⟩ := sameN_facts (l := l) (a := a) (f := l.length) (n := 1)
  rw [← tlN] at h1 h2
  have h2 := h2 (by omega)
  have hx := getD_le h15 ha
  unfold tlA
  split
  · exact ⟨⟨by simp only; omega, by simp only; omega, by simp only; omega⟩, by simp only; omega, by simp only; omega⟩
  split
  · exact ⟨⟨by simp only; omega, by simp only; omega, by simp only; omega⟩, by simp only; omega, by simp only; omega⟩
  split
  · exact ⟨⟨by simp only; omega, by simp only; omega, by simp only; omega⟩, by simp only; omega, by simp only; omega⟩
  · exact ⟨⟨by simp only; omega, by simp only; omega, by simp only; omega⟩, by simp only; omega, by simp only; omega⟩
def tlsM (l : List Nat) : Nat → Nat → List (Nat × Nat × Nat) → List (Nat × Nat × Nat)
  | 0, _, T => T
  | f + 1, a, T => if a < l.length then tlsM l f (a + (tlA l a).2) (T ++ [(tlA l a).1]) else T
def tls (l : List Nat) : List (Nat × Nat × Nat) := tlsM l l.length 0 []
theorem tlsM_ok {l : List Nat} (h15 : ∀ x ∈ l, x ≤ 15) : ∀ {f a : Nat} {T : List (Nat × Nat × Nat)}, (∀ s ∈ T, TlOk s) → T.length ≤ a → a ≤ l.length → (∀ s ∈ tlsM l f a T, TlOk s) ∧ (tlsM l f a T).length ≤ l.length
  | 0, a, T, h, h1, h2 => ⟨h, by rw [tlsM]; omega⟩
  | f + 1, a, T, h, h1, h2 => by
    rw [tlsM]
    split
    · rename_i c
      obtain ⟨o1, o2, o3⟩ := tlA_ok h15 c
      refine tlsM_ok h15 (fun s hs => ?_) (by rw [List.length_append, List.length_singleton]; omega) (by omega)
      rcases List.mem_append.1 hs with hs | hs
      · exact h s hs
      · rw [List.mem_singleton] at hs; rw [hs]; exact o1
    · exact ⟨h, by omega⟩
theorem tls_ok {l : List Nat} (h15 : ∀ x ∈ l, x ≤ 15) : (∀ s ∈ tls l, TlOk s) ∧ (tls l).length ≤ l.length := tlsM_ok h15 (by simp) (by simp) (Nat.zero_le _)
def syC (l : List (Nat × Nat × Nat)) : List AV := l.flatMap fun s => [.sc (.int .i64 (s.1 : Int)), .sc (.int .i64 (s.2.1 : Int)), .sc (.int .i64 (s.2.2 : Int))]
theorem syC_append {a b : List (Nat × Nat × Nat)} : syC (a ++ b) = syC a ++ syC b := by simp [syC]
theorem length_syC : ∀ {l : List (Nat × Nat × Nat)}, (syC l).length = l.length * 3
  | [] => rfl
  | p :: l => by rw [show syC (p :: l) = [.sc (.int .i64 (p.1 : Int)), .sc (.int .i64 (p.2.1 : Int)), .sc (.int .i64 (p.2.2 : Int))] ++ syC l from rfl, List.length_append, length_syC]; simp; omega
theorem chunks_syC {l : List (Nat × Nat × Nat)} : chunks (some 3) l.length (syC l) = l.map syA := by
  have h := chunks_flat (es := some 3) (l.map syA) (fun x hx => by
    obtain ⟨p, _, rfl⟩ := List.mem_map.1 hx
    exact ⟨_, rfl, rfl⟩)
  rw [List.length_map, List.flatMap_map] at h
  exact h
theorem free_sys {l : List (Nat × Nat × Nat)} : AV.free.freeL (l.map syA) = true := freeL_iff.2 fun x hx => by
  obtain ⟨p, _, rfl⟩ := List.mem_map.1 hx; rfl
set_option maxHeartbeats 1000000 in
set_option maxRecDepth 100000 in
theorem tellsOf_c [Tabs Tryd.prog] (nl : Bool) (l : List Nat) (hl : l.length ≤ 1000) (h15 : ∀ x ∈ l, x ≤ 15) : Con Tryd.prog n_deflate_tellsOf [.sl nl none (l.map nA)] (.sl (nl0 (tls l).length) (some 3) ((tls l).map syA)) := by
  refine Con.of' mix Tryd.func83 rfl Tryd.ntmps83 e_deflate_tellsOf r_deflate_tellsOf (by simp) (by simp only [AV.free, AV.free.freeL, free_nA, Bool.and_self]) (by simp only [AV.free]; exact free_sys) ?_
  unfold s_deflate_tellsOf
  obtain ⟨R, hR⟩ : ∃ R, R = tls l := ⟨_, rfl⟩
  rw [← hR]
  iterate 4 (first | refine wA ?_ | refine wB ?_ | refine wC rfl ?_ | refine wD rfl ?_ | refine wE ?_ | refine wF (by omega) ?_ | ((first | refine wG ?_ | refine wH ?_ | refine wI ?_ | refine wJ ?_ | refine wK ?_ | refine wL ?_); simp (disch := omega) only [wP, wZ, undef, seval, if_pos, if_neg, aStore, frz, AV.flat, ↓reduceIte, ne_eq, reduceCtorEq, ByteArray.size]))
  refine SWp.adopt 3 (some 3) (by simp (disch := omega) only [wP, wZ, undef, seval, if_pos, if_neg, aStore, frz, AV.flat, ↓reduceIte, ne_eq, reduceCtorEq, ByteArray.size]) ?_
  repeat (first | refine wA ?_ | refine wB ?_ | refine wC rfl ?_ | refine wD rfl ?_ | refine wE ?_ | refine wF (by omega) ?_ | ((first | refine wG ?_ | refine wH ?_ | refine wI ?_ | refine wJ ?_ | refine wK ?_ | refine wL ?_); simp (disch := omega) only [wP, wZ, undef, seval, if_pos, if_neg, aStore, frz, AV.flat, ↓reduceIte, ne_eq, reduceCtorEq, ByteArray.size]))
  refine SWp.loop (α := Nat × List (Nat × Nat × Nat) × Nat × Nat) (fun x => mk 25 x.2.2.2 [(0, .sl nl none (l.map nA)), (3, .own 3 x.2.2.1 (some 3) 0 x.2.1.length), (4, int x.1)] [(3, x.2.2.1, .row (nl0 x.2.1.length) (syC x.2.1))])
    (fun x => x.1 ≤ l.length ∧ x.2.1.length ≤ x.1 ∧ ∃ f, l.length ≤ x.1 + f ∧ R = tlsM l f x.1 x.2.1) (fun x => l.length - x.1) (0, [], 0, 1) ⟨Nat.zero_le _, Nat.zero_le _, l.length, by simp, hR⟩ (le_mk rfl ?_ ?_ ?_) ?_
  · exact Nat.le_refl _
  · simp (disch := omega) only [wP, wZ, undef, seval, if_pos, if_neg, aStore, frz, AV.flat, ↓reduceIte, ne_eq, reduceCtorEq, ByteArray.size]
  · simp (disch := omega) only [wP, wZ, undef, seval, if_pos, if_neg, aStore, frz, AV.flat, ↓reduceIte, ne_eq, reduceCtorEq, ByteArray.size, nl0_zero]
    try rfl
  rintro ⟨a, T, g, gc⟩ ⟨ha, hT, f, hf, hRf⟩ -
  simp only at ha hT hf hRf
  by_cases c : a < l.length
  · have d : decide ((a : Int) < (l.length : Int)) = true := decide_eq_true (by omega)
    obtain ⟨f, rfl⟩ : ∃ k, f = k + 1 := ⟨f - 1, by omega⟩
    rw [tlsM, if_pos c] at hRf
    obtain ⟨o1, o2, o3⟩ := tlA_ok h15 c
    have tc := tellAt_c nl l hl h15 a c
    obtain ⟨r, hr⟩ : ∃ r, r = tlA l a := ⟨_, rfl⟩
    rw [← hr] at o1 o2 o3 hRf tc
    obtain ⟨⟨u, v, w⟩, n⟩ := r
    simp only [tlV, syA] at o2 o3 hRf tc
    have hfl : List.flatMap (fun x => (cellsA x).getD []) [AV.agg [.sc (.int .i64 (u : Int)), .sc (.int .i64 (v : Int)), .sc (.int .i64 (w : Int))]] = [.sc (.int .i64 (u : Int)), .sc (.int .i64 (v : Int)), .sc (.int .i64 (w : Int))] := rfl
    have hcl : syC T ++ [.sc (.int .i64 (u : Int)), .sc (.int .i64 (v : Int)), .sc (.int .i64 (w : Int))] = syC (T ++ [(u, v, w)]) := by rw [syC_append]; rfl
    have hsl : (syC T).length = T.length * 3 := length_syC
    have hnl : nl0 (T.length + 1) = false := nl0_pos (by omega)
    have hTl : (T ++ [(u, v, w)]).length = T.length + 1 := by simp
    repeat (first | refine wA ?_ | refine wB ?_ | refine wC rfl ?_ | refine wD rfl ?_ | refine wE ?_ | refine wF (by omega) ?_ | ((first | refine wG ?_ | refine wH ?_ | refine wI ?_ | refine wJ ?_ | refine wK ?_ | refine wL ?_); simp (disch := omega) only [wP, wZ, undef, seval, if_pos, if_neg, aStore, frz, AV.flat, ↓reduceIte, ne_eq, reduceCtorEq, ByteArray.size, d, List.length_map]))
    refine goC_p _ (.inl ⟨by simp only [AV.free, AV.free.freeL, free_nA, Bool.and_self], tc⟩) ?_
    repeat (first | refine wA ?_ | refine wB ?_ | refine wC rfl ?_ | refine wD rfl ?_ | refine wE ?_ | refine wF (by omega) ?_ | ((first | refine wG ?_ | refine wH ?_ | refine wI ?_ | refine wJ ?_ | refine wK ?_ | refine wL ?_); simp (disch := omega) only [wP, wZ, undef, seval, if_pos, if_neg, aStore, frz, AV.flat, ↓reduceIte, ne_eq, reduceCtorEq, ByteArray.size]))
    refine ⟨⟨_, rfl, rfl⟩, ⟨fun w hw => ⟨_, List.mem_singleton.1 hw⟩, hsl.symm, by omega, by omega⟩, ?_⟩
    repeat (first | refine wA ?_ | refine wB ?_ | refine wC rfl ?_ | refine wD rfl ?_ | refine wE ?_ | refine wF (by omega) ?_ | ((first | refine wG ?_ | refine wH ?_ | refine wI ?_ | refine wJ ?_ | refine wK ?_ | refine wL ?_); simp (disch := omega) only [wP, wZ, undef, seval, if_pos, if_neg, aStore, frz, AV.flat, ↓reduceIte, ne_eq, reduceCtorEq, ByteArray.size, hfl, hcl]))
    refine At.of (a + n, T ++ [(u, v, w)], gc + 1, gc + 2) ⟨by simp only; omega, by simp only; rw [hTl]; omega, f, by simp only; omega, hRf⟩ (by simp only; omega) rfl rfl (Nat.le_refl _) ?_ ?_
    iterate 2 (case _ => simp (disch := omega) only [wP, wZ, undef, seval, if_pos, if_neg, aStore, frz, AV.flat, ↓reduceIte, ne_eq, reduceCtorEq, ByteArray.size, hTl, hnl])
  · have d : decide ((a : Int) < (l.length : Int)) = false := decide_eq_false (by omega)
    have hRT : R = T := by
      rw [hRf]
      cases f with
      | zero => rfl
      | succ f => rw [tlsM, if_neg c]
    have hcn : chunks (some 3) T.length (syC T) = T.map syA := chunks_syC
    have hsl : (syC T).length = T.length * 3 := length_syC
    rw [hRT]
    repeat (first | refine wA ?_ | refine wB ?_ | refine wC rfl ?_ | refine wD rfl ?_ | refine wE ?_ | refine wF (by omega) ?_ | ((first | refine wG ?_ | refine wH ?_ | refine wI ?_ | refine wJ ?_ | refine wK ?_ | refine wL ?_); simp (disch := omega) only [wP, wZ, undef, seval, if_pos, if_neg, aStore, frz, AV.flat, ↓reduceIte, ne_eq, reduceCtorEq, ByteArray.size, d, List.length_map, hcn, hsl]))
end Go.Proofs.YtbmppmdklappiaaDoor.Aw
namespace Go.Proofs.YtbmppmdklappiaaDoor.Aw
open Go
set_option linter.unusedSimpArgs false
set_option linter.unusedVariables false
def ctN (n : Nat) (S : List Nat) : List Nat := (List.range n).map fun i => S.count i
theorem length_ctN {n : Nat} {S : List Nat} : (ctN n S).length = n := by simp [ctN]
theorem ctN_get {n u : Nat} {S : List Nat} (h : u < n) : (ctN n S).getD u 0 = S.count u := by simp [ctN, List.getD, h]
theorem ctN_snoc {n u : Nat} {S : List Nat} (h : u < n) : (ctN n S).set u (S.count u + 1) = ctN n (S ++ [u]) := by
  rw [ctN, row_succ (f := fun i => S.count i) h, ctN]
  refine List.map_congr_left fun i _ => ?_
  rw [List.count_append, List.count_singleton]
  by_cases c : i = u
  · subst c; simp
  · simp [c, Ne.symm c]
theorem ctN_ok {n q : Nat} {S : List Nat} (hn : n ≤ 300) (hS : S.length ≤ 100000) (h1 : 1 ≤ q) (h2 : q ≤ 15) (h3 : n ≤ 2 ^ q) : CtOk (ctN n S) q := by
  refine ⟨by rw [length_ctN]; exact hn, fun x hx => ?_, h1, h2, by rw [length_ctN]; exact h3⟩
  obtain ⟨i, _, rfl⟩ := List.mem_map.1 hx
  exact Nat.le_trans List.count_le_length hS
theorem ctN_nil {n : Nat} : ctN n [] = List.replicate n 0 := by
  rw [ctN]
  refine List.ext_getElem (by simp) fun i h1 h2 => by simp
theorem ctN_zeros {n : Nat} : (List.replicate n [AV.sc (.int .i64 0)]).flatten = (ctN n []).map nA := by rw [zerosN, ctN_nil]
def ctT (T : List (Nat × Nat × Nat)) : List Nat := ctN 19 (T.map (·.1))
theorem ctT_ok {T : List (Nat × Nat × Nat)} (h : T.length ≤ 1000) : CtOk (ctT T) 7 := ctN_ok (by omega) (by rw [List.length_map]; omega) (by omega) (by omega) (by omega)
theorem getD_sy {l : List (Nat × Nat × Nat)} {i : Nat} (h : i < l.length) : (l.map syA).getD i .junk = syA (l.getD i (0, 0, 0)) := by simp [List.getD, h]
set_option maxHeartbeats 1000000 in
set_option maxRecDepth 100000 in
theorem bestTeller_c [Tabs Tryd.prog] (nl : Bool) (T : List (Nat × Nat × Nat)) (hT : T.length ≤ 1000) (hok : ∀ s ∈ T, TlOk s) : Con Tryd.prog n_deflate_bestTeller [.sl nl (some 3) (T.map syA)] (cdA false (lensB (ctT T) 7)) := by
  refine Con.of' mix Tryd.func84 rfl Tryd.ntmps84 e_deflate_bestTeller r_deflate_bestTeller (by simp) (by simp only [AV.free, AV.free.freeL, free_sys, Bool.and_self]) free_cdA ?_
  unfold s_deflate_bestTeller
  have bc := bestCode_c false (ctT T) 7 (ctT_ok hT)
  unfold cdA at bc
  obtain ⟨F, hF⟩ : ∃ F, F = lensB (ctT T) 7 := ⟨_, rfl⟩
  rw [← hF] at bc ⊢
  have hz := ctN_zeros (n := 19)
  repeat (first | refine wA ?_ | refine wB ?_ | refine wC rfl ?_ | refine wD rfl ?_ | refine wE ?_ | refine wF (by omega) ?_ | ((first | refine wG ?_ | refine wH ?_ | refine wI ?_ | refine wJ ?_ | refine wK ?_ | refine wL ?_); simp (disch := omega) only [wP, wZ, undef, UInt8.reduceToNat, Nat.reduceOr, Nat.reduceAnd, Nat.reduceXor, Nat.reduceDiv, if_pos, if_neg, aStore, frz, AV.flat, ↓reduceIte, ne_eq, reduceCtorEq, Int.reduceToNat, Nat.reduceEqDiff, Nat.reduceAdd, Nat.reduceSub, Nat.reduceMul, Int.reduceAdd, Int.reduceMul, Int.reduceSub, Int.reduceLT, Int.reduceLE, Int.reduceEq, Int.reduceNe, Nat.reduceLeDiff, Nat.reduceLT, Int.reduceNeg, Nat.reducePow, Nat.reduceMod, ByteArray.size, hz, List.length_map]))
  obtain ⟨A, hA⟩ : ∃ A, A = T.map syA := ⟨_, rfl⟩
  have hAl : A.length = T.length := by rw [hA, List.length_map]
  rw [← hA]
  refine SWp.loop (α := Nat × List Nat × Nat) (fun x => mk 23 x.2.2 [(2, .op 2 0 0), (3, .own 6 1 none 0 19), (7, .sl nl (some 3) A), (8, int T.length), (9, int x.1)] [(2, 0, .row false [.sc (.slice none 0 0), .sc (.slice none 0 0)]), (6, 1, .row false (x.2.1.map nA))])
    (fun x => x.1 ≤ T.length ∧ x.2.1 = ctN 19 ((T.take x.1).map (·.1)) ∧ x.2.2 = 2 + x.1) (fun x => T.length - x.1) (0, ctN 19 [], 2) ⟨Nat.zero_le _, by simp, by simp⟩ (le_mk rfl ?_ ?_ ?_) ?_
  · exact Nat.le_refl _
  iterate 2 (case _ => simp (disch := omega) only [wP, wZ, undef, UInt8.reduceToNat, Nat.reduceOr, Nat.reduceAnd, Nat.reduceXor, Nat.reduceDiv, if_pos, if_neg, aStore, frz, AV.flat, ↓reduceIte, ne_eq, reduceCtorEq, Int.reduceToNat, Nat.reduceEqDiff, Nat.reduceAdd, Nat.reduceSub, Nat.reduceMul, Int.reduceAdd, Int.reduceMul, Int.reduceSub, Int.reduceLT, Int.reduceLE, Int.reduceEq, Int.reduceNe, Nat.reduceLeDiff, Nat.reduceLT, Int.reduceNeg, Nat.reducePow, Nat.reduceMod, ByteArray.size])
  rintro ⟨k, c, gc⟩ ⟨hk, hc, hgc⟩ -
  simp only at hk hc hgc
  have hcl : c.length = 19 := by rw [hc, length_ctN]
  by_cases ck : k < T.length
  · have dk : decide ((k : Int) < (T.length : Int)) = true := decide_eq_true (by omega)
    obtain ⟨s, hs⟩ : ∃ s, s = T.getD k (0, 0, 0) := ⟨_, rfl⟩
    have hsT : s ∈ T := by
      have : T.getD k (0, 0, 0) = T[k] := by simp [List.getD, ck]
      rw [hs, this]; exact List.getElem_mem _
    have hg : A.getD k .junk = .agg [.sc (.int .i64 (s.1 : Int)), .sc (.int .i64 (s.2.1 : Int)), .sc (.int .i64 (s.2.2 : Int))] := by rw [hA, getD_sy ck, ← hs]; rfl
    have htk : (T.take (k + 1)).map (·.1) = (T.take k).map (·.1) ++ [s.1] := by rw [snocD (d := (0, 0, 0)) ck, ← hs, List.map_append]; rfl
    have hu := (hok s hsT).num
    have hsn := ctN_snoc (S := (T.take k).map (·.1)) hu
    rw [← htk, ← hc] at hsn
    have hcv : ((T.take k).map (·.1)).count s.1 ≤ 1000 := Nat.le_trans List.count_le_length (by rw [List.length_map, List.length_take]; omega)
    obtain ⟨u, hue⟩ : ∃ u, u = s.1 := ⟨_, rfl⟩
    obtain ⟨v, hv⟩ : ∃ v, v = ((T.take k).map (·.1)).count s.1 := ⟨_, rfl⟩
    have hgv : (c.map nA).getD u .junk = .sc (.int .i64 (v : Int)) := by rw [getD_nA (by omega), hc, ctN_get (by omega), hv, hue]
    rw [← hv, ← hue] at hsn
    rw [← hv] at hcv
    rw [← hue] at hg hu
    obtain ⟨v1, hv1⟩ : ∃ v1, v1 = v + 1 := ⟨_, rfl⟩
    rw [← hv1] at hsn
    have ev : (v : Int) + 1 = (v1 : Int) := by omega
    have hsp := splice_nA (l := c) (k := u) (x := v1) (by omega)
    rw [hsn] at hsp
    obtain ⟨c2, hc2⟩ : ∃ c2, c2 = ctN 19 ((T.take (k + 1)).map (·.1)) := ⟨_, rfl⟩
    rw [← hc2, ← take_nA, ← drop_nA] at hsp
    repeat (first | refine wA ?_ | refine wB ?_ | refine wC rfl ?_ | refine wD rfl ?_ | refine wE ?_ | refine wF (by omega) ?_ | ((first | refine wG ?_ | refine wH ?_ | refine wI ?_ | refine wJ ?_ | refine wK ?_ | refine wL ?_); simp (disch := omega) only [wP, wZ, undef, UInt8.reduceToNat, Nat.reduceOr, Nat.reduceAnd, Nat.reduceXor, Nat.reduceDiv, if_pos, if_neg, aStore, frz, AV.flat, ↓reduceIte, ne_eq, reduceCtorEq, Int.reduceToNat, Nat.reduceEqDiff, Nat.reduceAdd, Nat.reduceSub, Nat.reduceMul, Int.reduceAdd, Int.reduceMul, Int.reduceSub, Int.reduceLT, Int.reduceLE, Int.reduceEq, Int.reduceNe, Nat.reduceLeDiff, Nat.reduceLT, Int.reduceNeg, Nat.reducePow, Nat.reduceMod, ByteArray.size, dk, hAl, hg, hgv, ev, hsp, hcl, List.length_map]))
    refine At.of (k + 1, c2, gc + 1) ⟨by simp only; omega, hc2, by simp only; omega⟩ (by simp only; omega) rfl rfl (Nat.le_refl _) ?_ ?_
    iterate 2 (case _ => simp (disch := omega) only [wP, wZ, undef, UInt8.reduceToNat, Nat.reduceOr, Nat.reduceAnd, Nat.reduceXor, Nat.reduceDiv, if_pos, if_neg, aStore, frz, AV.flat, ↓reduceIte, ne_eq, reduceCtorEq, Int.reduceToNat, Nat.reduceEqDiff, Nat.reduceAdd, Nat.reduceSub, Nat.reduceMul, Int.reduceAdd, Int.reduceMul, Int.reduceSub, Int.reduceLT, Int.reduceLE, Int.reduceEq, Int.reduceNe, Nat.reduceLeDiff, Nat.reduceLT, Int.reduceNeg, Nat.reducePow, Nat.reduceMod, ByteArray.size, hsp])
  · have dk : decide ((k : Int) < (T.length : Int)) = false := decide_eq_false (by omega)
    rw [List.take_of_length_le (by omega)] at hc
    obtain rfl : c = ctT T := hc
    repeat (first | refine wA ?_ | refine wB ?_ | refine wC rfl ?_ | refine wD rfl ?_ | refine wE ?_ | refine wF (by omega) ?_ | ((first | refine wG ?_ | refine wH ?_ | refine wI ?_ | refine wJ ?_ | refine wK ?_ | refine wL ?_); simp (disch := omega) only [wP, wZ, undef, UInt8.reduceToNat, Nat.reduceOr, Nat.reduceAnd, Nat.reduceXor, Nat.reduceDiv, if_pos, if_neg, aStore, frz, AV.flat, ↓reduceIte, ne_eq, reduceCtorEq, Int.reduceToNat, Nat.reduceEqDiff, Nat.reduceAdd, Nat.reduceSub, Nat.reduceMul, Int.reduceAdd, Int.reduceMul, Int.reduceSub, Int.reduceLT, Int.reduceLE, Int.reduceEq, Int.reduceNe, Nat.reduceLeDiff, Nat.reduceLT, Int.reduceNeg, Nat.reducePow, Nat.reduceMod, ByteArray.size, dk, hAl]))
    refine goC_f 6 1 (nl := false) (cells := (ctT T).map nA) [.sl false none ((ctT T).map nA), int ((7 : Nat) : Int)] _ (by simp (disch := omega) only [wP, wZ, undef, UInt8.reduceToNat, Nat.reduceOr, Nat.reduceAnd, Nat.reduceXor, Nat.reduceDiv, if_pos, if_neg, aStore, frz, AV.flat, ↓reduceIte, ne_eq, reduceCtorEq, Int.reduceToNat, Nat.reduceEqDiff, Nat.reduceAdd, Nat.reduceSub, Nat.reduceMul, Int.reduceAdd, Int.reduceMul, Int.reduceSub, Int.reduceLT, Int.reduceLE, Int.reduceEq, Int.reduceNe, Nat.reduceLeDiff, Nat.reduceLT, Int.reduceNeg, Nat.reducePow, Nat.reduceMod, ByteArray.size]) (by simp (disch := omega) only [wP, wZ, undef, UInt8.reduceToNat, Nat.reduceOr, Nat.reduceAnd, Nat.reduceXor, Nat.reduceDiv, if_pos, if_neg, aStore, frz, AV.flat, ↓reduceIte, ne_eq, reduceCtorEq, Int.reduceToNat, Nat.reduceEqDiff, Nat.reduceAdd, Nat.reduceSub, Nat.reduceMul, Int.reduceAdd, Int.reduceMul, Int.reduceSub, Int.reduceLT, Int.reduceLE, Int.reduceEq, Int.reduceNe, Nat.reduceLeDiff, Nat.reduceLT, Int.reduceNeg, Nat.reducePow, Nat.reduceMod, ByteArray.size, free_nA]) ?_ (by simp (disch := omega) only [wP, wZ, undef, UInt8.reduceToNat, Nat.reduceOr, Nat.reduceAnd, Nat.reduceXor, Nat.reduceDiv, if_pos, if_neg, aStore, frz, AV.flat, ↓reduceIte, ne_eq, reduceCtorEq, Int.reduceToNat, Nat.reduceEqDiff, Nat.reduceAdd, Nat.reduceSub, Nat.reduceMul, Int.reduceAdd, Int.reduceMul, Int.reduceSub, Int.reduceLT, Int.reduceLE, Int.reduceEq, Int.reduceNe, Nat.reduceLeDiff, Nat.reduceLT, Int.reduceNeg, Nat.reducePow, Nat.reduceMod, ByteArray.size, free_nA]) bc ?_
    · simp (disch := omega) only [wP, wZ, undef, UInt8.reduceToNat, Nat.reduceOr, Nat.reduceAnd, Nat.reduceXor, Nat.reduceDiv, if_pos, if_neg, aStore, frz, AV.flat, ↓reduceIte, ne_eq, reduceCtorEq, Int.reduceToNat, Nat.reduceEqDiff, Nat.reduceAdd, Nat.reduceSub, Nat.reduceMul, Int.reduceAdd, Int.reduceMul, Int.reduceSub, Int.reduceLT, Int.reduceLE, Int.reduceEq, Int.reduceNe, Nat.reduceLeDiff, Nat.reduceLT, Int.reduceNeg, Nat.reducePow, Nat.reduceMod, ByteArray.size, fR, iR, hcl]
    repeat (first | refine wA ?_ | refine wB ?_ | refine wC rfl ?_ | refine wD rfl ?_ | refine wE ?_ | refine wF (by omega) ?_ | ((first | refine wG ?_ | refine wH ?_ | refine wI ?_ | refine wJ ?_ | refine wK ?_ | refine wL ?_); simp (disch := omega) only [wP, wZ, undef, UInt8.reduceToNat, Nat.reduceOr, Nat.reduceAnd, Nat.reduceXor, Nat.reduceDiv, if_pos, if_neg, aStore, frz, AV.flat, ↓reduceIte, ne_eq, reduceCtorEq, Int.reduceToNat, Nat.reduceEqDiff, Nat.reduceAdd, Nat.reduceSub, Nat.reduceMul, Int.reduceAdd, Int.reduceMul, Int.reduceSub, Int.reduceLT, Int.reduceLE, Int.reduceEq, Int.reduceNe, Nat.reduceLeDiff, Nat.reduceLT, Int.reduceNeg, Nat.reducePow, Nat.reduceMod, ByteArray.size, fR, iR, cdA]))
end Go.Proofs.YtbmppmdklappiaaDoor.Aw
namespace Go.Proofs.YtbmppmdklappiaaDoor.Aw
open Go
set_option linter.unusedSimpArgs false
set_option linter.unusedVariables false
def litL (P : List (Nat × Nat)) : List Nat := P.map fun p => (litS p).1
def dstL (P : List (Nat × Nat)) : List Nat := (P.filter fun p => decide (0 < p.2)).map fun p => (dstS p).1
def litCt (P : List (Nat × Nat)) : List Nat := ctN 286 (litL P ++ [256] ++ if P.length = 0 then [0] else [])
def dstCt (P : List (Nat × Nat)) : List Nat := ctN 30 (dstL P)
theorem length_litL {P : List (Nat × Nat)} : (litL P).length = P.length := by simp [litL]
theorem length_dstL {P : List (Nat × Nat)} : (dstL P).length ≤ P.length := by rw [dstL, List.length_map]; exact List.length_filter_le _ _
theorem litCt_ok {P : List (Nat × Nat)} (h : P.length ≤ 20000) : CtOk (litCt P) 15 := ctN_ok (by omega) (by rw [List.length_append, List.length_append, length_litL]; split <;> simp <;> omega) (by omega) (by omega) (by omega)
theorem dstCt_ok {P : List (Nat × Nat)} (h : P.length ≤ 20000) : CtOk (dstCt P) 15 := ctN_ok (by omega) (Nat.le_trans length_dstL (by omega)) (by omega) (by omega) (by omega)
theorem litL_snoc {P : List (Nat × Nat)} {k : Nat} (h : k < P.length) : litL (P.take (k + 1)) = litL (P.take k) ++ [(litS (P.getD k (0, 0))).1] := by rw [snocD (d := (0, 0)) h, litL, List.map_append]; rfl
theorem dstL_snoc {P : List (Nat × Nat)} {k : Nat} (h : k < P.length) : dstL (P.take (k + 1)) = dstL (P.take k) ++ if 0 < (P.getD k (0, 0)).2 then [(dstS (P.getD k (0, 0))).1] else [] := by
  rw [snocD (d := (0, 0)) h, dstL, List.filter_append, List.map_append]
  congr 1
  by_cases c : 0 < (P.getD k (0, 0)).2
  · rw [if_pos c, List.filter_cons_of_pos (by simpa using c)]; rfl
  · rw [if_neg c, List.filter_cons_of_neg (by simpa using c)]; rfl
set_option maxHeartbeats 2000000 in
set_option maxRecDepth 100000 in
theorem bestCodes_c [Tabs Tryd.prog] (nl : Bool) (P : List (Nat × Nat)) (hP : P.length ≤ 20000) (hok : ∀ p ∈ P, pcOk p) : Con Tryd.prog n_deflate_bestCodes [.sl nl (some 2) (P.map pcA)] (cdsA (lensB (litCt P) 15) (lensB (dstCt P) 15)) := by
  refine Con.of' mix Tryd.func50 rfl Tryd.ntmps50 e_deflate_bestCodes r_deflate_bestCodes (by simp) (by simp only [AV.free, AV.free.freeL, free_pcs, Bool.and_self]) free_cdsA ?_
  unfold s_deflate_bestCodes
  have bl := bestCode_c false (litCt P) 15 (litCt_ok hP)
  have bd := bestCode_c false (dstCt P) 15 (dstCt_ok hP)
  unfold cdA at bl bd
  obtain ⟨F, hF⟩ : ∃ F, F = lensB (litCt P) 15 := ⟨_, rfl⟩
  obtain ⟨D, hD⟩ : ∃ D, D = lensB (dstCt P) 15 := ⟨_, rfl⟩
  rw [← hF] at bl ⊢
  rw [← hD] at bd ⊢
  have hz := ctN_zeros (n := 286)
  have hz2 := ctN_zeros (n := 30)
  obtain ⟨A, hA⟩ : ∃ A, A = P.map pcA := ⟨_, rfl⟩
  have hAl : A.length = P.length := by rw [hA, List.length_map]
  have hrA : ∀ ρ, ren.renL ρ A = A := fun ρ => by rw [hA]; exact renL_free ρ _ free_pcs
  have hgA : ∀ k, k < P.length → A.getD k .junk = .agg [.sc (.int .u16 ((P.getD k (0, 0)).1 : Int)), .sc (.int .u16 ((P.getD k (0, 0)).2 : Int))] := fun k hk => by rw [hA, getD_pc hk]; rfl
  rw [← hA]
  iterate 3 (first | refine wA ?_ | refine wB ?_ | refine wC rfl ?_ | refine wD rfl ?_ | refine wE ?_ | refine wF (by omega) ?_ | ((first | refine wG ?_ | refine wH ?_ | refine wI ?_ | refine wJ ?_ | refine wK ?_ | refine wL ?_); simp (disch := omega) only [wP, wZ, undef, UInt8.reduceToNat, Nat.reduceOr, Nat.reduceAnd, Nat.reduceXor, Nat.reduceDiv, if_pos, if_neg, aStore, frz, AV.flat, ↓reduceIte, ne_eq, reduceCtorEq, Int.reduceToNat, Nat.reduceEqDiff, Nat.reduceAdd, Nat.reduceSub, Nat.reduceMul, Int.reduceAdd, Int.reduceMul, Int.reduceSub, Int.reduceLT, Int.reduceLE, Int.reduceEq, Int.reduceNe, Nat.reduceLeDiff, Nat.reduceLT, Int.reduceNeg, Nat.reducePow, Nat.reduceMod, ByteArray.size]))
  refine SWp.reg2 ?_ ?_
  repeat (first | refine wA ?_ | refine wB ?_ | refine wC rfl ?_ | refine wD rfl ?_ | refine wE ?_ | refine wF (by omega) ?_ | ((first | refine wG ?_ | refine wH ?_ | refine wI ?_ | refine wJ ?_ | refine wK ?_ | refine wL ?_); simp (disch := omega) only [wP, wZ, undef, UInt8.reduceToNat, Nat.reduceOr, Nat.reduceAnd, Nat.reduceXor, Nat.reduceDiv, if_pos, if_neg, aStore, frz, AV.flat, ↓reduceIte, ne_eq, reduceCtorEq, Int.reduceToNat, Nat.reduceEqDiff, Nat.reduceAdd, Nat.reduceSub, Nat.reduceMul, Int.reduceAdd, Int.reduceMul, Int.reduceSub, Int.reduceLT, Int.reduceLE, Int.reduceEq, Int.reduceNe, Nat.reduceLeDiff, Nat.reduceLT, Int.reduceNeg, Nat.reducePow, Nat.reduceMod, ByteArray.size, hz, hz2, hAl, List.length_map]))
  refine SWp.renew 7 1 (o := .row false ((ctN 286 []).map nA)) (by simp (disch := omega) only [wP, wZ, undef, UInt8.reduceToNat, Nat.reduceOr, Nat.reduceAnd, Nat.reduceXor, Nat.reduceDiv, if_pos, if_neg, aStore, frz, AV.flat, ↓reduceIte, ne_eq, reduceCtorEq, Int.reduceToNat, Nat.reduceEqDiff, Nat.reduceAdd, Nat.reduceSub, Nat.reduceMul, Int.reduceAdd, Int.reduceMul, Int.reduceSub, Int.reduceLT, Int.reduceLE, Int.reduceEq, Int.reduceNe, Nat.reduceLeDiff, Nat.reduceLT, Int.reduceNeg, Nat.reducePow, Nat.reduceMod, ByteArray.size]) ?_
  refine SWp.renew 8 2 (o := .row false ((ctN 30 []).map nA)) (by simp (disch := omega) only [wP, wZ, undef, UInt8.reduceToNat, Nat.reduceOr, Nat.reduceAnd, Nat.reduceXor, Nat.reduceDiv, if_pos, if_neg, aStore, frz, AV.flat, ↓reduceIte, ne_eq, reduceCtorEq, Int.reduceToNat, Nat.reduceEqDiff, Nat.reduceAdd, Nat.reduceSub, Nat.reduceMul, Int.reduceAdd, Int.reduceMul, Int.reduceSub, Int.reduceLT, Int.reduceLE, Int.reduceEq, Int.reduceNe, Nat.reduceLeDiff, Nat.reduceLT, Int.reduceNeg, Nat.reducePow, Nat.reduceMod, ByteArray.size, rgH_at, rgn_eq, renL_nA, iR]) ?_
  refine SWp.le (le_mk (N := 52) (gc := 5) (l := [(0, .sl nl (some 2) A), (2, .op 2 0 0), (3, .own 7 3 none 0 286), (4, .own 8 4 none 0 30), (9, .sl nl (some 2) A), (10, int P.length), (11, int 0)]) (h := [(2, 0, .row false [.sc (.slice none 0 0), .sc (.slice none 0 0), .sc (.slice none 0 0), .sc (.slice none 0 0)]), (7, 3, .row false ((ctN 286 []).map nA)), (8, 4, .row false ((ctN 30 []).map nA))]) rfl ?_ ?_ ?_) ?_
  iterate 3 (case _ => simp (disch := omega) only [wP, wZ, undef, UInt8.reduceToNat, Nat.reduceOr, Nat.reduceAnd, Nat.reduceXor, Nat.reduceDiv, if_pos, if_neg, aStore, frz, AV.flat, ↓reduceIte, ne_eq, reduceCtorEq, Int.reduceToNat, Nat.reduceEqDiff, Nat.reduceAdd, Nat.reduceSub, Nat.reduceMul, Int.reduceAdd, Int.reduceMul, Int.reduceSub, Int.reduceLT, Int.reduceLE, Int.reduceEq, Int.reduceNe, Nat.reduceLeDiff, Nat.reduceLT, Int.reduceNeg, Nat.reducePow, Nat.reduceMod, ByteArray.size, rgn_eq, iR, hrA, rgH_at])
  rotate_left
  repeat (first | refine wA ?_ | refine wB ?_ | refine wC rfl ?_ | refine wD rfl ?_ | refine wE ?_ | refine wF (by omega) ?_ | ((first | refine wG ?_ | refine wH ?_ | refine wI ?_ | refine wJ ?_ | refine wK ?_ | refine wL ?_); simp (disch := omega) only [wP, wZ, undef, UInt8.reduceToNat, Nat.reduceOr, Nat.reduceAnd, Nat.reduceXor, Nat.reduceDiv, if_pos, if_neg, aStore, frz, AV.flat, ↓reduceIte, ne_eq, reduceCtorEq, Int.reduceToNat, Nat.reduceEqDiff, Nat.reduceAdd, Nat.reduceSub, Nat.reduceMul, Int.reduceAdd, Int.reduceMul, Int.reduceSub, Int.reduceLT, Int.reduceLE, Int.reduceEq, Int.reduceNe, Nat.reduceLeDiff, Nat.reduceLT, Int.reduceNeg, Nat.reducePow, Nat.reduceMod, ByteArray.size, hz, hz2, hAl, List.length_map]))
  refine SWp.renew 7 2 (o := .row false ((ctN 286 []).map nA)) (by simp (disch := omega) only [wP, wZ, undef, UInt8.reduceToNat, Nat.reduceOr, Nat.reduceAnd, Nat.reduceXor, Nat.reduceDiv, if_pos, if_neg, aStore, frz, AV.flat, ↓reduceIte, ne_eq, reduceCtorEq, Int.reduceToNat, Nat.reduceEqDiff, Nat.reduceAdd, Nat.reduceSub, Nat.reduceMul, Int.reduceAdd, Int.reduceMul, Int.reduceSub, Int.reduceLT, Int.reduceLE, Int.reduceEq, Int.reduceNe, Nat.reduceLeDiff, Nat.reduceLT, Int.reduceNeg, Nat.reducePow, Nat.reduceMod, ByteArray.size]) ?_
  refine SWp.renew 8 1 (o := .row false ((ctN 30 []).map nA)) (by simp (disch := omega) only [wP, wZ, undef, UInt8.reduceToNat, Nat.reduceOr, Nat.reduceAnd, Nat.reduceXor, Nat.reduceDiv, if_pos, if_neg, aStore, frz, AV.flat, ↓reduceIte, ne_eq, reduceCtorEq, Int.reduceToNat, Nat.reduceEqDiff, Nat.reduceAdd, Nat.reduceSub, Nat.reduceMul, Int.reduceAdd, Int.reduceMul, Int.reduceSub, Int.reduceLT, Int.reduceLE, Int.reduceEq, Int.reduceNe, Nat.reduceLeDiff, Nat.reduceLT, Int.reduceNeg, Nat.reducePow, Nat.reduceMod, ByteArray.size, rgH_at, rgn_eq, renL_nA, iR]) ?_
  refine SWp.le (le_mk (N := 52) (gc := 5) (l := [(0, .sl nl (some 2) A), (2, .op 2 0 0), (3, .own 7 3 none 0 286), (4, .own 8 4 none 0 30), (9, .sl nl (some 2) A), (10, int P.length), (11, int 0)]) (h := [(2, 0, .row false [.sc (.slice none 0 0), .sc (.slice none 0 0), .sc (.slice none 0 0), .sc (.slice none 0 0)]), (7, 3, .row false ((ctN 286 []).map nA)), (8, 4, .row false ((ctN 30 []).map nA))]) rfl ?_ ?_ ?_) ?_
  iterate 3 (case _ => simp (disch := omega) only [wP, wZ, undef, UInt8.reduceToNat, Nat.reduceOr, Nat.reduceAnd, Nat.reduceXor, Nat.reduceDiv, if_pos, if_neg, aStore, frz, AV.flat, ↓reduceIte, ne_eq, reduceCtorEq, Int.reduceToNat, Nat.reduceEqDiff, Nat.reduceAdd, Nat.reduceSub, Nat.reduceMul, Int.reduceAdd, Int.reduceMul, Int.reduceSub, Int.reduceLT, Int.reduceLE, Int.reduceEq, Int.reduceNe, Nat.reduceLeDiff, Nat.reduceLT, Int.reduceNeg, Nat.reducePow, Nat.reduceMod, ByteArray.size, rgn_eq, iR, hrA, rgH_at])
  all_goals
    refine SWp.loop (α := Nat × List Nat × List Nat × Nat) (fun x => mk 52 x.2.2.2 [(0, .sl nl (some 2) A), (2, .op 2 0 0), (3, .own 7 3 none 0 286), (4, .own 8 4 none 0 30), (9, .sl nl (some 2) A), (10, int P.length), (11, int x.1)] [(2, 0, .row false [.sc (.slice none 0 0), .sc (.slice none 0 0), .sc (.slice none 0 0), .sc (.slice none 0 0)]), (7, 3, .row false (x.2.1.map nA)), (8, 4, .row false (x.2.2.1.map nA))])
      (fun x => x.1 ≤ P.length ∧ x.2.1 = ctN 286 (litL (P.take x.1)) ∧ x.2.2.1 = ctN 30 (dstL (P.take x.1)) ∧ x.2.2.2 = 5 + x.1) (fun x => P.length - x.1) (0, ctN 286 [], ctN 30 [], 5) ⟨Nat.zero_le _, by simp [litL], by simp [dstL], by simp⟩ (le_mk rfl ?_ ?_ ?_) ?_
    · exact Nat.le_refl _
    iterate 2 (case _ => simp (disch := omega) only [wP, wZ, undef, UInt8.reduceToNat, Nat.reduceOr, Nat.reduceAnd, Nat.reduceXor, Nat.reduceDiv, if_pos, if_neg, aStore, frz, AV.flat, ↓reduceIte, ne_eq, reduceCtorEq, Int.reduceToNat, Nat.reduceEqDiff, Nat.reduceAdd, Nat.reduceSub, Nat.reduceMul, Int.reduceAdd, Int.reduceMul, Int.reduceSub, Int.reduceLT, Int.reduceLE, Int.reduceEq, Int.reduceNe, Nat.reduceLeDiff, Nat.reduceLT, Int.reduceNeg, Nat.reducePow, Nat.reduceMod, ByteArray.size])
    rintro ⟨k, cl, cd, gc⟩ ⟨hk, hcl, hcd, hgc⟩ -
    simp only at hk hcl hcd hgc
    have hll : cl.length = 286 := by rw [hcl, length_ctN]
    have hdl : cd.length = 30 := by rw [hcd, length_ctN]
    by_cases ck : k < P.length
    · have dk : decide ((k : Int) < (P.length : Int)) = true := decide_eq_true (by omega)
      have hg := hgA k ck
      have hls := litL_snoc ck
      have hds := dstL_snoc ck
      obtain ⟨p, hp⟩ : ∃ p, p = P.getD k (0, 0) := ⟨_, rfl⟩
      rw [← hp] at hg hls hds
      have hpP : p ∈ P := by
        have : P.getD k (0, 0) = P[k] := by simp [List.getD, ck]
        rw [hp, this]; exact List.getElem_mem _
      have ho := hok p hpP
      have lc := literal_c p ho
      have ir := isRun_c p
      rw [pcA] at lc ir
      have hu := (lit_ok (l := List.replicate 286 0) (by simp) ho).num
      rw [List.length_replicate] at hu
      have hsn := ctN_snoc (S := litL (P.take k)) hu
      rw [← hls, ← hcl] at hsn
      have hcv : (litL (P.take k)).count (litS p).1 ≤ 20000 := Nat.le_trans List.count_le_length (by rw [length_litL, List.length_take]; omega)
      have hge : cl.getD (litS p).1 0 = (litL (P.take k)).count (litS p).1 := by rw [hcl, ctN_get hu]
      obtain ⟨⟨u, u2, u3⟩, hue⟩ : ∃ s, s = litS p := ⟨_, rfl⟩
      rw [← hue] at hu hsn hcv hge lc
      simp only [syA] at hu hsn hcv hge lc
      obtain ⟨v, hv⟩ : ∃ v, v = (litL (P.take k)).count u := ⟨_, rfl⟩
      rw [← hv] at hsn hcv hge
      have hgv : (cl.map nA).getD u .junk = .sc (.int .i64 (v : Int)) := by rw [getD_nA (by omega), hge]
      obtain ⟨v1, hv1⟩ : ∃ v1, v1 = v + 1 := ⟨_, rfl⟩
      rw [← hv1] at hsn
      have ev : (v : Int) + 1 = (v1 : Int) := by omega
      have hsp := splice_nA (l := cl) (k := u) (x := v1) (by omega)
      rw [hsn, ← take_nA, ← drop_nA] at hsp
      obtain ⟨cl2, hcl2⟩ : ∃ c, c = ctN 286 (litL (P.take (k + 1))) := ⟨_, rfl⟩
      rw [← hcl2] at hsp
      by_cases c0 : 0 < p.2
      · have e0 : decide (0 < p.2) = true := decide_eq_true c0
        rw [e0] at ir
        rw [if_pos c0] at hds
        have dc := distance_c p c0 (by have := ho; simp only [pcOk] at this; omega)
        rw [pcA] at dc
        have hx := (dst_ok (d := List.replicate 30 0) (by simp) ho c0).num
        rw [List.length_replicate] at hx
        have hdn := ctN_snoc (S := dstL (P.take k)) hx
        rw [← hds, ← hcd] at hdn
        have hdv : (dstL (P.take k)).count (dstS p).1 ≤ 20000 := Nat.le_trans List.count_le_length (Nat.le_trans length_dstL (by rw [List.length_take]; omega))
        have hde : cd.getD (dstS p).1 0 = (dstL (P.take k)).count (dstS p).1 := by rw [hcd, ctN_get hx]
        obtain ⟨⟨x, x2, x3⟩, hxe⟩ : ∃ s, s = dstS p := ⟨_, rfl⟩
        rw [← hxe] at hx hdn hdv hde dc
        simp only [syA] at hx hdn hdv hde dc
        obtain ⟨w, hw⟩ : ∃ v, v = (dstL (P.take k)).count x := ⟨_, rfl⟩
        rw [← hw] at hdn hdv hde
        have hgw : (cd.map nA).getD x .junk = .sc (.int .i64 (w : Int)) := by rw [getD_nA (by omega), hde]
        obtain ⟨w1, hw1⟩ : ∃ v1, v1 = w + 1 := ⟨_, rfl⟩
        rw [← hw1] at hdn
        have ew : (w : Int) + 1 = (w1 : Int) := by omega
        have hsq := splice_nA (l := cd) (k := x) (x := w1) (by omega)
        rw [hdn, ← take_nA, ← drop_nA] at hsq
        obtain ⟨cd2, hcd2⟩ : ∃ c, c = ctN 30 (dstL (P.take (k + 1))) := ⟨_, rfl⟩
        rw [← hcd2] at hsq
        repeat (first | refine wA ?_ | refine wB ?_ | refine wC rfl ?_ | refine wD rfl ?_ | refine wE ?_ | refine wF (by omega) ?_ | ((first | refine wG ?_ | refine wH ?_ | refine wI ?_ | refine wJ ?_ | refine wK ?_ | refine wL ?_); simp (disch := omega) only [wP, wZ, undef, UInt8.reduceToNat, Nat.reduceOr, Nat.reduceAnd, Nat.reduceXor, Nat.reduceDiv, if_pos, if_neg, aStore, frz, AV.flat, ↓reduceIte, ne_eq, reduceCtorEq, Int.reduceToNat, Nat.reduceEqDiff, Nat.reduceAdd, Nat.reduceSub, Nat.reduceMul, Int.reduceAdd, Int.reduceMul, Int.reduceSub, Int.reduceLT, Int.reduceLE, Int.reduceEq, Int.reduceNe, Nat.reduceLeDiff, Nat.reduceLT, Int.reduceNeg, Nat.reducePow, Nat.reduceMod, ByteArray.size, dk, hAl, hg]))
        refine goC_p _ (.inl ⟨rfl, lc⟩) ?_
        repeat (first | refine wA ?_ | refine wB ?_ | refine wC rfl ?_ | refine wD rfl ?_ | refine wE ?_ | refine wF (by omega) ?_ | ((first | refine wG ?_ | refine wH ?_ | refine wI ?_ | refine wJ ?_ | refine wK ?_ | refine wL ?_); simp (disch := omega) only [wP, wZ, undef, UInt8.reduceToNat, Nat.reduceOr, Nat.reduceAnd, Nat.reduceXor, Nat.reduceDiv, if_pos, if_neg, aStore, frz, AV.flat, ↓reduceIte, ne_eq, reduceCtorEq, Int.reduceToNat, Nat.reduceEqDiff, Nat.reduceAdd, Nat.reduceSub, Nat.reduceMul, Int.reduceAdd, Int.reduceMul, Int.reduceSub, Int.reduceLT, Int.reduceLE, Int.reduceEq, Int.reduceNe, Nat.reduceLeDiff, Nat.reduceLT, Int.reduceNeg, Nat.reducePow, Nat.reduceMod, ByteArray.size, hgv, ev, hsp, hll, List.length_map]))
        refine goC_p _ (.inl ⟨rfl, ir⟩) ?_
        repeat (first | refine wA ?_ | refine wB ?_ | refine wC rfl ?_ | refine wD rfl ?_ | refine wE ?_ | refine wF (by omega) ?_ | ((first | refine wG ?_ | refine wH ?_ | refine wI ?_ | refine wJ ?_ | refine wK ?_ | refine wL ?_); simp (disch := omega) only [wP, wZ, undef, UInt8.reduceToNat, Nat.reduceOr, Nat.reduceAnd, Nat.reduceXor, Nat.reduceDiv, if_pos, if_neg, aStore, frz, AV.flat, ↓reduceIte, ne_eq, reduceCtorEq, Int.reduceToNat, Nat.reduceEqDiff, Nat.reduceAdd, Nat.reduceSub, Nat.reduceMul, Int.reduceAdd, Int.reduceMul, Int.reduceSub, Int.reduceLT, Int.reduceLE, Int.reduceEq, Int.reduceNe, Nat.reduceLeDiff, Nat.reduceLT, Int.reduceNeg, Nat.reducePow, Nat.reduceMod, ByteArray.size]))
        refine goC_p _ (.inl ⟨rfl, dc⟩) ?_
        repeat (first | refine wA ?_ | refine wB ?_ | refine wC rfl ?_ | refine wD rfl ?_ | refine wE ?_ | refine wF (by omega) ?_ | ((first | refine wG ?_ | refine wH ?_ | refine wI ?_ | refine wJ ?_ | refine wK ?_ | refine wL ?_); simp (disch := omega) only [wP, wZ, undef, UInt8.reduceToNat, Nat.reduceOr, Nat.reduceAnd, Nat.reduceXor, Nat.reduceDiv, if_pos, if_neg, aStore, frz, AV.flat, ↓reduceIte, ne_eq, reduceCtorEq, Int.reduceToNat, Nat.reduceEqDiff, Nat.reduceAdd, Nat.reduceSub, Nat.reduceMul, Int.reduceAdd, Int.reduceMul, Int.reduceSub, Int.reduceLT, Int.reduceLE, Int.reduceEq, Int.reduceNe, Nat.reduceLeDiff, Nat.reduceLT, Int.reduceNeg, Nat.reducePow, Nat.reduceMod, ByteArray.size, hgw, ew, hsq, hdl, List.length_map]))
        refine At.of (k + 1, cl2, cd2, gc + 1) ⟨by simp only; omega, hcl2, hcd2, by simp only; omega⟩ (by simp only; omega) rfl rfl (Nat.le_refl _) ?_ ?_
        iterate 2 (case _ => simp (disch := omega) only [wP, wZ, undef, UInt8.reduceToNat, Nat.reduceOr, Nat.reduceAnd, Nat.reduceXor, Nat.reduceDiv, if_pos, if_neg, aStore, frz, AV.flat, ↓reduceIte, ne_eq, reduceCtorEq, Int.reduceToNat, Nat.reduceEqDiff, Nat.reduceAdd, Nat.reduceSub, Nat.reduceMul, Int.reduceAdd, Int.reduceMul, Int.reduceSub, Int.reduceLT, Int.reduceLE, Int.reduceEq, Int.reduceNe, Nat.reduceLeDiff, Nat.reduceLT, Int.reduceNeg, Nat.reducePow, Nat.reduceMod, ByteArray.size, hsp, hsq])
      · have e0 : decide (0 < p.2) = false := decide_eq_false c0
        rw [e0] at ir
        rw [if_neg c0, List.append_nil] at hds
        rw [← hds] at hcd
        repeat (first | refine wA ?_ | refine wB ?_ | refine wC rfl ?_ | refine wD rfl ?_ | refine wE ?_ | refine wF (by omega) ?_ | ((first | refine wG ?_ | refine wH ?_ | refine wI ?_ | refine wJ ?_ | refine wK ?_ | refine wL ?_); simp (disch := omega) only [wP, wZ, undef, UInt8.reduceToNat, Nat.reduceOr, Nat.reduceAnd, Nat.reduceXor, Nat.reduceDiv, if_pos, if_neg, aStore, frz, AV.flat, ↓reduceIte, ne_eq, reduceCtorEq, Int.reduceToNat, Nat.reduceEqDiff, Nat.reduceAdd, Nat.reduceSub, Nat.reduceMul, Int.reduceAdd, Int.reduceMul, Int.reduceSub, Int.reduceLT, Int.reduceLE, Int.reduceEq, Int.reduceNe, Nat.reduceLeDiff, Nat.reduceLT, Int.reduceNeg, Nat.reducePow, Nat.reduceMod, ByteArray.size, dk, hAl, hg]))
        refine goC_p _ (.inl ⟨rfl, lc⟩) ?_
        repeat (first | refine wA ?_ | refine wB ?_ | refine wC rfl ?_ | refine wD rfl ?_ | refine wE ?_ | refine wF (by omega) ?_ | ((first | refine wG ?_ | refine wH ?_ | refine wI ?_ | refine wJ ?_ | refine wK ?_ | refine wL ?_); simp (disch := omega) only [wP, wZ, undef, UInt8.reduceToNat, Nat.reduceOr, Nat.reduceAnd, Nat.reduceXor, Nat.reduceDiv, if_pos, if_neg, aStore, frz, AV.flat, ↓reduceIte, ne_eq, reduceCtorEq, Int.reduceToNat, Nat.reduceEqDiff, Nat.reduceAdd, Nat.reduceSub, Nat.reduceMul, Int.reduceAdd, Int.reduceMul, Int.reduceSub, Int.reduceLT, Int.reduceLE, Int.reduceEq, Int.reduceNe, Nat.reduceLeDiff, Nat.reduceLT, Int.reduceNeg, Nat.reducePow, Nat.reduceMod, ByteArray.size, hgv, ev, hsp, hll, List.length_map]))
        refine goC_p _ (.inl ⟨rfl, ir⟩) ?_
        repeat (first | refine wA ?_ | refine wB ?_ | refine wC rfl ?_ | refine wD rfl ?_ | refine wE ?_ | refine wF (by omega) ?_ | ((first | refine wG ?_ | refine wH ?_ | refine wI ?_ | refine wJ ?_ | refine wK ?_ | refine wL ?_); simp (disch := omega) only [wP, wZ, undef, UInt8.reduceToNat, Nat.reduceOr, Nat.reduceAnd, Nat.reduceXor, Nat.reduceDiv, if_pos, if_neg, aStore, frz, AV.flat, ↓reduceIte, ne_eq, reduceCtorEq, Int.reduceToNat, Nat.reduceEqDiff, Nat.reduceAdd, Nat.reduceSub, Nat.reduceMul, Int.reduceAdd, Int.reduceMul, Int.reduceSub, Int.reduceLT, Int.reduceLE, Int.reduceEq, Int.reduceNe, Nat.reduceLeDiff, Nat.reduceLT, Int.reduceNeg, Nat.reducePow, Nat.reduceMod, ByteArray.size]))
        refine At.of (k + 1, cl2, cd, gc + 1) ⟨by simp only; omega, hcl2, hcd, by simp only; omega⟩ (by simp only; omega) rfl rfl (Nat.le_refl _) ?_ ?_
        iterate 2 (case _ => simp (disch := omega) only [wP, wZ, undef, UInt8.reduceToNat, Nat.reduceOr, Nat.reduceAnd, Nat.reduceXor, Nat.reduceDiv, if_pos, if_neg, aStore, frz, AV.flat, ↓reduceIte, ne_eq, reduceCtorEq, Int.reduceToNat, Nat.reduceEqDiff, Nat.reduceAdd, Nat.reduceSub, Nat.reduceMul, Int.reduceAdd, Int.reduceMul, Int.reduceSub, Int.reduceLT, Int.reduceLE, Int.reduceEq, Int.reduceNe, Nat.reduceLeDiff, Nat.reduceLT, Int.reduceNeg, Nat.reducePow, Nat.reduceMod, ByteArray.size, hsp])
    · have dk : decide ((k : Int) < (P.length : Int)) = false := decide_eq_false (by omega)
      rw [List.take_of_length_le (by omega)] at hcl hcd
      have hsn := ctN_snoc (n := 286) (u := 256) (S := litL P) (by omega)
      have hge : cl.getD 256 0 = (litL P).count 256 := by rw [hcl, ctN_get (by omega)]
      have hcv : (litL P).count 256 ≤ 20000 := Nat.le_trans List.count_le_length (by rw [length_litL]; omega)
      rw [← hcl] at hsn
      obtain ⟨v, hv⟩ : ∃ v, v = (litL P).count 256 := ⟨_, rfl⟩
      rw [← hv] at hsn hcv hge
      have hgv : (cl.map nA).getD 256 .junk = .sc (.int .i64 (v : Int)) := by rw [getD_nA (by omega), hge]
      obtain ⟨v1, hv1⟩ : ∃ v1, v1 = v + 1 := ⟨_, rfl⟩
      rw [← hv1] at hsn
      have ev : (v : Int) + 1 = (v1 : Int) := by omega
      have hsp := splice_nA (l := cl) (k := 256) (x := v1) (by omega)
      rw [hsn, ← take_nA, ← drop_nA] at hsp
      obtain ⟨c2, hc2⟩ : ∃ c, c = ctN 286 (litL P ++ [256]) := ⟨_, rfl⟩
      rw [← hc2] at hsp
      have hc2l : c2.length = 286 := by rw [hc2, length_ctN]
      have hdC : cd = dstCt P := hcd
      rw [← hdC] at bd
      by_cases cz : P.length = 0
      · have dz : decide ((P.length : Int) = 0) = true := decide_eq_true (by omega)
        have hsn := ctN_snoc (n := 286) (u := 0) (S := litL P ++ [256]) (by omega)
        have hge : c2.getD 0 0 = (litL P ++ [256]).count 0 := by rw [hc2, ctN_get (by omega)]
        have hcv : (litL P ++ [256]).count 0 ≤ 20001 := Nat.le_trans List.count_le_length (by rw [List.length_append, length_litL]; simp; omega)
        rw [← hc2] at hsn
        obtain ⟨w, hw⟩ : ∃ v, v = (litL P ++ [256]).count 0 := ⟨_, rfl⟩
        rw [← hw] at hsn hcv hge
        have hgw : (c2.map nA).getD 0 .junk = .sc (.int .i64 (w : Int)) := by rw [getD_nA (by omega), hge]
        obtain ⟨w1, hw1⟩ : ∃ v1, v1 = w + 1 := ⟨_, rfl⟩
        rw [← hw1] at hsn
        have ew : (w : Int) + 1 = (w1 : Int) := by omega
        have hsq := splice_nA (l := c2) (k := 0) (x := w1) (by omega)
        rw [hsn, ← take_nA, ← drop_nA] at hsq
        obtain ⟨c3, hc3⟩ : ∃ c, c = ctN 286 (litL P ++ [256] ++ [0]) := ⟨_, rfl⟩
        rw [← hc3] at hsq
        have hc3l : c3.length = 286 := by rw [hc3, length_ctN]
        have hlC : c3 = litCt P := by rw [hc3, litCt, if_pos cz]
        rw [← hlC] at bl
        rw [List.take_zero, List.nil_append, Nat.zero_add] at hsq
        repeat (first | refine wA ?_ | refine wB ?_ | refine wC rfl ?_ | refine wD rfl ?_ | refine wE ?_ | refine wF (by omega) ?_ | ((first | refine wG ?_ | refine wH ?_ | refine wI ?_ | refine wJ ?_ | refine wK ?_ | refine wL ?_); simp (disch := omega) only [wP, wZ, undef, UInt8.reduceToNat, Nat.reduceOr, Nat.reduceAnd, Nat.reduceXor, Nat.reduceDiv, if_pos, if_neg, aStore, frz, AV.flat, ↓reduceIte, ne_eq, reduceCtorEq, Int.reduceToNat, Nat.reduceEqDiff, Nat.reduceAdd, Nat.reduceSub, Nat.reduceMul, Int.reduceAdd, Int.reduceMul, Int.reduceSub, Int.reduceLT, Int.reduceLE, Int.reduceEq, Int.reduceNe, Nat.reduceLeDiff, Nat.reduceLT, Int.reduceNeg, Nat.reducePow, Nat.reduceMod, ByteArray.size, dk, hAl, hgv, ev, hsp, hll, dz, hgw, ew, hsq, hc2l, List.length_map]))
        refine goC_f 7 3 (nl := false) (cells := c3.map nA) [.sl false none (c3.map nA), int ((15 : Nat) : Int)] _ (by simp (disch := omega) only [wP, wZ, undef, UInt8.reduceToNat, Nat.reduceOr, Nat.reduceAnd, Nat.reduceXor, Nat.reduceDiv, if_pos, if_neg, aStore, frz, AV.flat, ↓reduceIte, ne_eq, reduceCtorEq, Int.reduceToNat, Nat.reduceEqDiff, Nat.reduceAdd, Nat.reduceSub, Nat.reduceMul, Int.reduceAdd, Int.reduceMul, Int.reduceSub, Int.reduceLT, Int.reduceLE, Int.reduceEq, Int.reduceNe, Nat.reduceLeDiff, Nat.reduceLT, Int.reduceNeg, Nat.reducePow, Nat.reduceMod, ByteArray.size]) (by simp (disch := omega) only [wP, wZ, undef, UInt8.reduceToNat, Nat.reduceOr, Nat.reduceAnd, Nat.reduceXor, Nat.reduceDiv, if_pos, if_neg, aStore, frz, AV.flat, ↓reduceIte, ne_eq, reduceCtorEq, Int.reduceToNat, Nat.reduceEqDiff, Nat.reduceAdd, Nat.reduceSub, Nat.reduceMul, Int.reduceAdd, Int.reduceMul, Int.reduceSub, Int.reduceLT, Int.reduceLE, Int.reduceEq, Int.reduceNe, Nat.reduceLeDiff, Nat.reduceLT, Int.reduceNeg, Nat.reducePow, Nat.reduceMod, ByteArray.size, free_nA]) ?_ (by simp (disch := omega) only [wP, wZ, undef, UInt8.reduceToNat, Nat.reduceOr, Nat.reduceAnd, Nat.reduceXor, Nat.reduceDiv, if_pos, if_neg, aStore, frz, AV.flat, ↓reduceIte, ne_eq, reduceCtorEq, Int.reduceToNat, Nat.reduceEqDiff, Nat.reduceAdd, Nat.reduceSub, Nat.reduceMul, Int.reduceAdd, Int.reduceMul, Int.reduceSub, Int.reduceLT, Int.reduceLE, Int.reduceEq, Int.reduceNe, Nat.reduceLeDiff, Nat.reduceLT, Int.reduceNeg, Nat.reducePow, Nat.reduceMod, ByteArray.size, free_nA]) bl ?_
        · simp (disch := omega) only [wP, wZ, undef, UInt8.reduceToNat, Nat.reduceOr, Nat.reduceAnd, Nat.reduceXor, Nat.reduceDiv, if_pos, if_neg, aStore, frz, AV.flat, ↓reduceIte, ne_eq, reduceCtorEq, Int.reduceToNat, Nat.reduceEqDiff, Nat.reduceAdd, Nat.reduceSub, Nat.reduceMul, Int.reduceAdd, Int.reduceMul, Int.reduceSub, Int.reduceLT, Int.reduceLE, Int.reduceEq, Int.reduceNe, Nat.reduceLeDiff, Nat.reduceLT, Int.reduceNeg, Nat.reducePow, Nat.reduceMod, ByteArray.size, fR, iR, hc3l]
        repeat (first | refine wA ?_ | refine wB ?_ | refine wC rfl ?_ | refine wD rfl ?_ | refine wE ?_ | refine wF (by omega) ?_ | ((first | refine wG ?_ | refine wH ?_ | refine wI ?_ | refine wJ ?_ | refine wK ?_ | refine wL ?_); simp (disch := omega) only [wP, wZ, undef, UInt8.reduceToNat, Nat.reduceOr, Nat.reduceAnd, Nat.reduceXor, Nat.reduceDiv, if_pos, if_neg, aStore, frz, AV.flat, ↓reduceIte, ne_eq, reduceCtorEq, Int.reduceToNat, Nat.reduceEqDiff, Nat.reduceAdd, Nat.reduceSub, Nat.reduceMul, Int.reduceAdd, Int.reduceMul, Int.reduceSub, Int.reduceLT, Int.reduceLE, Int.reduceEq, Int.reduceNe, Nat.reduceLeDiff, Nat.reduceLT, Int.reduceNeg, Nat.reducePow, Nat.reduceMod, ByteArray.size, fR, iR]))
        refine goC_f 8 4 (nl := false) (cells := cd.map nA) [.sl false none (cd.map nA), int ((15 : Nat) : Int)] _ (by simp (disch := omega) only [wP, wZ, undef, UInt8.reduceToNat, Nat.reduceOr, Nat.reduceAnd, Nat.reduceXor, Nat.reduceDiv, if_pos, if_neg, aStore, frz, AV.flat, ↓reduceIte, ne_eq, reduceCtorEq, Int.reduceToNat, Nat.reduceEqDiff, Nat.reduceAdd, Nat.reduceSub, Nat.reduceMul, Int.reduceAdd, Int.reduceMul, Int.reduceSub, Int.reduceLT, Int.reduceLE, Int.reduceEq, Int.reduceNe, Nat.reduceLeDiff, Nat.reduceLT, Int.reduceNeg, Nat.reducePow, Nat.reduceMod, ByteArray.size]) (by simp (disch := omega) only [wP, wZ, undef, UInt8.reduceToNat, Nat.reduceOr, Nat.reduceAnd, Nat.reduceXor, Nat.reduceDiv, if_pos, if_neg, aStore, frz, AV.flat, ↓reduceIte, ne_eq, reduceCtorEq, Int.reduceToNat, Nat.reduceEqDiff, Nat.reduceAdd, Nat.reduceSub, Nat.reduceMul, Int.reduceAdd, Int.reduceMul, Int.reduceSub, Int.reduceLT, Int.reduceLE, Int.reduceEq, Int.reduceNe, Nat.reduceLeDiff, Nat.reduceLT, Int.reduceNeg, Nat.reducePow, Nat.reduceMod, ByteArray.size, free_nA]) ?_ (by simp (disch := omega) only [wP, wZ, undef, UInt8.reduceToNat, Nat.reduceOr, Nat.reduceAnd, Nat.reduceXor, Nat.reduceDiv, if_pos, if_neg, aStore, frz, AV.flat, ↓reduceIte, ne_eq, reduceCtorEq, Int.reduceToNat, Nat.reduceEqDiff, Nat.reduceAdd, Nat.reduceSub, Nat.reduceMul, Int.reduceAdd, Int.reduceMul, Int.reduceSub, Int.reduceLT, Int.reduceLE, Int.reduceEq, Int.reduceNe, Nat.reduceLeDiff, Nat.reduceLT, Int.reduceNeg, Nat.reducePow, Nat.reduceMod, ByteArray.size, free_nA]) bd ?_
        · simp (disch := omega) only [wP, wZ, undef, UInt8.reduceToNat, Nat.reduceOr, Nat.reduceAnd, Nat.reduceXor, Nat.reduceDiv, if_pos, if_neg, aStore, frz, AV.flat, ↓reduceIte, ne_eq, reduceCtorEq, Int.reduceToNat, Nat.reduceEqDiff, Nat.reduceAdd, Nat.reduceSub, Nat.reduceMul, Int.reduceAdd, Int.reduceMul, Int.reduceSub, Int.reduceLT, Int.reduceLE, Int.reduceEq, Int.reduceNe, Nat.reduceLeDiff, Nat.reduceLT, Int.reduceNeg, Nat.reducePow, Nat.reduceMod, ByteArray.size, fR, iR, hdl]
        repeat (first | refine wA ?_ | refine wB ?_ | refine wC rfl ?_ | refine wD rfl ?_ | refine wE ?_ | refine wF (by omega) ?_ | ((first | refine wG ?_ | refine wH ?_ | refine wI ?_ | refine wJ ?_ | refine wK ?_ | refine wL ?_); simp (disch := omega) only [wP, wZ, undef, UInt8.reduceToNat, Nat.reduceOr, Nat.reduceAnd, Nat.reduceXor, Nat.reduceDiv, if_pos, if_neg, aStore, frz, AV.flat, ↓reduceIte, ne_eq, reduceCtorEq, Int.reduceToNat, Nat.reduceEqDiff, Nat.reduceAdd, Nat.reduceSub, Nat.reduceMul, Int.reduceAdd, Int.reduceMul, Int.reduceSub, Int.reduceLT, Int.reduceLE, Int.reduceEq, Int.reduceNe, Nat.reduceLeDiff, Nat.reduceLT, Int.reduceNeg, Nat.reducePow, Nat.reduceMod, ByteArray.size, fR, iR, cdsA]))
      · have dz : decide ((P.length : Int) = 0) = false := decide_eq_false (by omega)
        have hlC : c2 = litCt P := by rw [hc2, litCt, if_neg cz, List.append_nil]
        rw [← hlC] at bl
        repeat (first | refine wA ?_ | refine wB ?_ | refine wC rfl ?_ | refine wD rfl ?_ | refine wE ?_ | refine wF (by omega) ?_ | ((first | refine wG ?_ | refine wH ?_ | refine wI ?_ | refine wJ ?_ | refine wK ?_ | refine wL ?_); simp (disch := omega) only [wP, wZ, undef, UInt8.reduceToNat, Nat.reduceOr, Nat.reduceAnd, Nat.reduceXor, Nat.reduceDiv, if_pos, if_neg, aStore, frz, AV.flat, ↓reduceIte, ne_eq, reduceCtorEq, Int.reduceToNat, Nat.reduceEqDiff, Nat.reduceAdd, Nat.reduceSub, Nat.reduceMul, Int.reduceAdd, Int.reduceMul, Int.reduceSub, Int.reduceLT, Int.reduceLE, Int.reduceEq, Int.reduceNe, Nat.reduceLeDiff, Nat.reduceLT, Int.reduceNeg, Nat.reducePow, Nat.reduceMod, ByteArray.size, dk, hAl, hgv, ev, hsp, hll, dz, List.length_map]))
        refine goC_f 7 3 (nl := false) (cells := c2.map nA) [.sl false none (c2.map nA), int ((15 : Nat) : Int)] _ (by simp (disch := omega) only [wP, wZ, undef, UInt8.reduceToNat, Nat.reduceOr, Nat.reduceAnd, Nat.reduceXor, Nat.reduceDiv, if_pos, if_neg, aStore, frz, AV.flat, ↓reduceIte, ne_eq, reduceCtorEq, Int.reduceToNat, Nat.reduceEqDiff, Nat.reduceAdd, Nat.reduceSub, Nat.reduceMul, Int.reduceAdd, Int.reduceMul, Int.reduceSub, Int.reduceLT, Int.reduceLE, Int.reduceEq, Int.reduceNe, Nat.reduceLeDiff, Nat.reduceLT, Int.reduceNeg, Nat.reducePow, Nat.reduceMod, ByteArray.size]) (by simp (disch := omega) only [wP, wZ, undef, UInt8.reduceToNat, Nat.reduceOr, Nat.reduceAnd, Nat.reduceXor, Nat.reduceDiv, if_pos, if_neg, aStore, frz, AV.flat, ↓reduceIte, ne_eq, reduceCtorEq, Int.reduceToNat, Nat.reduceEqDiff, Nat.reduceAdd, Nat.reduceSub, Nat.reduceMul, Int.reduceAdd, Int.reduceMul, Int.reduceSub, Int.reduceLT, Int.reduceLE, Int.reduceEq, Int.reduceNe, Nat.reduceLeDiff, Nat.reduceLT, Int.reduceNeg, Nat.reducePow, Nat.reduceMod, ByteArray.size, free_nA]) ?_ (by simp (disch := omega) only [wP, wZ, undef, UInt8.reduceToNat, Nat.reduceOr, Nat.reduceAnd, Nat.reduceXor, Nat.reduceDiv, if_pos, if_neg, aStore, frz, AV.flat, ↓reduceIte, ne_eq, reduceCtorEq, Int.reduceToNat, Nat.reduceEqDiff, Nat.reduceAdd, Nat.reduceSub, Nat.reduceMul, Int.reduceAdd, Int.reduceMul, Int.reduceSub, Int.reduceLT, Int.reduceLE, Int.reduceEq, Int.reduceNe, Nat.reduceLeDiff, Nat.reduceLT, Int.reduceNeg, Nat.reducePow, Nat.reduceMod, ByteArray.size, free_nA]) bl ?_
        · simp (disch := omega) only [wP, wZ, undef, UInt8.reduceToNat, Nat.reduceOr, Nat.reduceAnd, Nat.reduceXor, Nat.reduceDiv, if_pos, if_neg, aStore, frz, AV.flat, ↓reduceIte, ne_eq, reduceCtorEq, Int.reduceToNat, Nat.reduceEqDiff, Nat.reduceAdd, Nat.reduceSub, Nat.reduceMul, Int.reduceAdd, Int.reduceMul, Int.reduceSub, Int.reduceLT, Int.reduceLE, Int.reduceEq, Int.reduceNe, Nat.reduceLeDiff, Nat.reduceLT, Int.reduceNeg, Nat.reducePow, Nat.reduceMod, ByteArray.size, fR, iR, hc2l]
        repeat (first | refine wA ?_ | refine wB ?_ | refine wC rfl ?_ | refine wD rfl ?_ | refine wE ?_ | refine wF (by omega) ?_ | ((first | refine wG ?_ | refine wH ?_ | refine wI ?_ | refine wJ ?_ | refine wK ?_ | refine wL ?_); simp (disch := omega) only [wP, wZ, undef, UInt8.reduceToNat, Nat.reduceOr, Nat.reduceAnd, Nat.reduceXor, Nat.reduceDiv, if_pos, if_neg, aStore, frz, AV.flat, ↓reduceIte, ne_eq, reduceCtorEq, Int.reduceToNat, Nat.reduceEqDiff, Nat.reduceAdd, Nat.reduceSub, Nat.reduceMul, Int.reduceAdd, Int.reduceMul, Int.reduceSub, Int.reduceLT, Int.reduceLE, Int.reduceEq, Int.reduceNe, Nat.reduceLeDiff, Nat.reduceLT, Int.reduceNeg, Nat.reducePow, Nat.reduceMod, ByteArray.size, fR, iR]))
        refine goC_f 8 4 (nl := false) (cells := cd.map nA) [.sl false none (cd.map nA), int ((15 : Nat) : Int)] _ (by simp (disch := omega) only [wP, wZ, undef, UInt8.reduceToNat, Nat.reduceOr, Nat.reduceAnd, Nat.reduceXor, Nat.reduceDiv, if_pos, if_neg, aStore, frz, AV.flat, ↓reduceIte, ne_eq, reduceCtorEq, Int.reduceToNat, Nat.reduceEqDiff, Nat.reduceAdd, Nat.reduceSub, Nat.reduceMul, Int.reduceAdd, Int.reduceMul, Int.reduceSub, Int.reduceLT, Int.reduceLE, Int.reduceEq, Int.reduceNe, Nat.reduceLeDiff, Nat.reduceLT, Int.reduceNeg, Nat.reducePow, Nat.reduceMod, ByteArray.size]) (by simp (disch := omega) only [wP, wZ, undef, UInt8.reduceToNat, Nat.reduceOr, Nat.reduceAnd, Nat.reduceXor, Nat.reduceDiv, if_pos, if_neg, aStore, frz, AV.flat, ↓reduceIte, ne_eq, reduceCtorEq, Int.reduceToNat, Nat.reduceEqDiff, Nat.reduceAdd, Nat.reduceSub, Nat.reduceMul, Int.reduceAdd, Int.reduceMul, Int.reduceSub, Int.reduceLT, Int.reduceLE, Int.reduceEq, Int.reduceNe, Nat.reduceLeDiff, Nat.reduceLT, Int.reduceNeg, Nat.reducePow, Nat.reduceMod, ByteArray.size, free_nA]) ?_ (by simp (disch := omega) only [wP, wZ, undef, UInt8.reduceToNat, Nat.reduceOr, Nat.reduceAnd, Nat.reduceXor, Nat.reduceDiv, if_pos, if_neg, aStore, frz, AV.flat, ↓reduceIte, ne_eq, reduceCtorEq, Int.reduceToNat, Nat.reduceEqDiff, Nat.reduceAdd, Nat.reduceSub, Nat.reduceMul, Int.reduceAdd, Int.reduceMul, Int.reduceSub, Int.reduceLT, Int.reduceLE, Int.reduceEq, Int.reduceNe, Nat.reduceLeDiff, Nat.reduceLT, Int.reduceNeg, Nat.reducePow, Nat.reduceMod, ByteArray.size, free_nA]) bd ?_
        · simp (disch := omega) only [wP, wZ, undef, UInt8.reduceToNat, Nat.reduceOr, Nat.reduceAnd, Nat.reduceXor, Nat.reduceDiv, if_pos, if_neg, aStore, frz, AV.flat, ↓reduceIte, ne_eq, reduceCtorEq, Int.reduceToNat, Nat.reduceEqDiff, Nat.reduceAdd, Nat.reduceSub, Nat.reduceMul, Int.reduceAdd, Int.reduceMul, Int.reduceSub, Int.reduceLT, Int.reduceLE, Int.reduceEq, Int.reduceNe, Nat.reduceLeDiff, Nat.reduceLT, Int.reduceNeg, Nat.reducePow, Nat.reduceMod, ByteArray.size, fR, iR, hdl]
        repeat (first | refine wA ?_ | refine wB ?_ | refine wC rfl ?_ | refine wD rfl ?_ | refine wE ?_ | refine wF (by omega) ?_ | ((first | refine wG ?_ | refine wH ?_ | refine wI ?_ | refine wJ ?_ | refine wK ?_ | refine wL ?_); simp (disch := omega) only [wP, wZ, undef, UInt8.reduceToNat, Nat.reduceOr, Nat.reduceAnd, Nat.reduceXor, Nat.reduceDiv, if_pos, if_neg, aStore, frz, AV.flat, ↓reduceIte, ne_eq, reduceCtorEq, Int.reduceToNat, Nat.reduceEqDiff, Nat.reduceAdd, Nat.reduceSub, Nat.reduceMul, Int.reduceAdd, Int.reduceMul, Int.reduceSub, Int.reduceLT, Int.reduceLE, Int.reduceEq, Int.reduceNe, Nat.reduceLeDiff, Nat.reduceLT, Int.reduceNeg, Nat.reducePow, Nat.reduceMod, ByteArray.size, fR, iR, cdsA]))
end Go.Proofs.YtbmppmdklappiaaDoor.Aw
namespace Go.Proofs.YtbmppmdklappiaaDoor.Aw
open Go
set_option linter.unusedSimpArgs false
set_option linter.unusedVariables false
def tlO : List Nat := [16, 17, 18, 0, 8, 7, 9, 6, 10, 5, 11, 4, 12, 3, 13, 2, 14, 1, 15]
theorem tlO_lt : ∀ k, k < 19 → tlO.getD k 0 < 19 := by decide
def tdL (l d : List Nat) : List Nat := cutM l 257 ++ cutM d 1
def tdF (l d : List Nat) : List Nat := lensB (ctT (tls (tdL l d))) 7
def tdO (F : List Nat) : List Nat := tlO.map fun i => F.getD i 0
def tellB (l d : List Nat) : List Nat :=
  digB ((cutM l 257).length - 257) 5 ++ (digB ((cutM d 1).length - 1) 5 ++ (digB ((cutM (tdO (tdF l d)) 4).length - 4) 4 ++
    ((cutM (tdO (tdF l d)) 4).flatMap (fun x => digB x 3) ++ (tls (tdL l d)).flatMap (symB (tdF l d)))))
theorem cutM_len {l : List Nat} {q : Nat} (h : q ≤ l.length) : q ≤ (cutM l q).length ∧ (cutM l q).length ≤ l.length := by
  rw [cutM, List.length_take]
  have h1 := cutN_ge (l := l) (q := q) h
  have h2 := cutN_le (l := l) (q := q) (n := l.length)
  omega
theorem cutM_le {l : List Nat} {q b : Nat} (h : ∀ x ∈ l, x ≤ b) : ∀ x ∈ cutM l q, x ≤ b := fun x hx => h x (List.mem_of_mem_take hx)
theorem put_y [Tabs Tryd.prog] (X : List Nat) (hl : X.length ≤ 2000000) (hX : ∀ x ∈ X, x < 2) (v : Nat) (hv : v < 16777216) (n : Nat) (hn : n ≤ 24) (Y : List Nat) (hY : Y = X ++ digB v n) :
    HCon Tryd.prog n_huff_Writer_Put [.op 1000 0 0, .sc (.int .i64 (v : Int)), .sc (.int .i64 (n : Int))] [.row false (wrR 0 ((X.length + 7) / 8) X.length), .row (nl0 ((X.length + 7) / 8)) ((bytesB X).map u8)] (.tup [])
      [(1000, 0, .row false (wrR 60 ((Y.length + 7) / 8) Y.length)), (1001, 60, .row (nl0 ((Y.length + 7) / 8)) ((bytesB Y).map u8))] 61 := by
  have h := huff_Put_h X hl hX v hv n hn X.length ((X.length + 7) / 8) rfl rfl
  have e : X.length + n = Y.length := by rw [hY, List.length_append, length_digB]
  rw [← hY, e] at h
  exact h
theorem put_lt {X Y : List Nat} {v n : Nat} (hX : ∀ x ∈ X, x < 2) (hY : Y = X ++ digB v n) : ∀ x ∈ Y, x < 2 := fun x hx => by rw [hY] at hx; exact (List.mem_append.1 hx).elim (hX x) (digB_lt x)
theorem put_len {X Y : List Nat} {v n : Nat} (hY : Y = X ++ digB v n) : Y.length = X.length + n := by rw [hY, List.length_append, length_digB]
set_option maxHeartbeats 2000000 in
set_option maxRecDepth 100000 in
theorem packer_tell_h [Tabs Tryd.prog] (ht : Tabs.tab Tryd.prog 0 = some (tlO.map nA)) (L : List Nat) (hl : L.length ≤ 100000) (hL : ∀ x ∈ L, x < 2) (l d : List Nat) (ol : LnOk l) (od : LnOk d) (l1 : l.length = 286) (d1 : d.length = 30) (i m : Nat) (hi : i = L.length) (hm : m = (L.length + 7) / 8) (j : Nat) (hj : j = (L ++ tellB l d).length) :
    HCon Tryd.prog n_deflate_packer_tell [.agg [.op 1000 0 0], cdsA l d] [.row false (wrR 0 m i), .row (nl0 m) ((bytesB L).map u8)] (.tup [])
      [(1000, 0, .row false (wrR (KE + 1) ((j + 7) / 8) j)), (1001, KE + 1, .row (nl0 ((j + 7) / 8)) ((bytesB (L ++ tellB l d)).map u8))] (KE + 2) := by
  refine HCon.of' mix Tryd.func51 rfl Tryd.ntmps51 e_deflate_packer_tell r_deflate_packer_tell (by simp) ?_ wr_gl ?_
  · simp only [AV.gl.glL, AV.gl, cdsA, and_true, true_and]
    exact ⟨by omega, glL_of_free _ _ free_nA, glL_of_free _ _ free_nA, glL_of_free _ _ free_nA, glL_of_free _ _ free_nA⟩
  unfold s_deflate_packer_tell
  have hG : ∀ st, ev Tryd.prog st (.global 0) = .fp (.agg (tlO.map nA)) 0 := fun st => ev_global ht
  obtain ⟨O, hO⟩ : ∃ O, O = tlO := ⟨_, rfl⟩
  have hOl : O.length = 19 := by rw [hO]; rfl
  have hOx : ∀ k, k < 19 → O.getD k 0 < 19 := by rw [hO]; exact tlO_lt
  rw [← hO] at hG
  have k1 := cutM_len (l := l) (q := 257) (by omega)
  have k2 := cutM_len (l := d) (q := 1) (by omega)
  have cl := cut_c false l (by omega) 257 (by omega)
  have cd := cut_c false d (by omega) 1 (by omega)
  have h15 : ∀ x ∈ tdL l d, x ≤ 15 := fun x hx => (List.mem_append.1 hx).elim (cutM_le ol.small x) (cutM_le od.small x)
  have kl : (tdL l d).length ≤ 320 := by rw [tdL, List.length_append]; omega
  have cc := slices_ConcatI false false ((cutM l 257).map nA) ((cutM d 1).map nA) free_nA free_nA (by rw [List.length_map]; omega) (by rw [List.length_map]; omega) (by rw [List.length_map, List.length_map]; omega)
  rw [← List.map_append, ← tdL] at cc
  have ct := tellsOf_c false (tdL l d) (by omega) h15
  obtain ⟨o1, o2⟩ := tls_ok h15
  have cb := bestTeller_c (nl0 (tls (tdL l d)).length) (tls (tdL l d)) (by omega) o1
  rw [← tdF] at cb
  have oF : LnOk (tdF l d) := lens_LnOk (ctT_ok (by omega))
  have lF : (tdF l d).length = 19 := by rw [tdF, length_lens, ctT, length_ctN]
  have hB : tellB l d = digB ((cutM l 257).length - 257) 5 ++ (digB ((cutM d 1).length - 1) 5 ++ (digB ((cutM (tdO (tdF l d)) 4).length - 4) 4 ++ ((cutM (tdO (tdF l d)) 4).flatMap (fun x => digB x 3) ++ (tls (tdL l d)).flatMap (symB (tdF l d))))) := rfl
  have hOF : tdO (tdF l d) = O.map fun i => (tdF l d).getD i 0 := by rw [hO]; rfl
  obtain ⟨B, hBe⟩ : ∃ B, B = tellB l d := ⟨_, rfl⟩
  rw [← hBe] at hB hj ⊢
  obtain ⟨F, hF⟩ : ∃ F, F = tdF l d := ⟨_, rfl⟩
  rw [← hF] at cb oF lF hB hOF
  obtain ⟨T, hT⟩ : ∃ T, T = tls (tdL l d) := ⟨_, rfl⟩
  rw [← hT] at ct o1 o2 cb hB
  obtain ⟨S, hS⟩ : ∃ S, S = tdL l d := ⟨_, rfl⟩
  rw [← hS] at ct cc h15 kl o2
  obtain ⟨L2, hL2⟩ : ∃ X, X = cutM l 257 := ⟨_, rfl⟩
  obtain ⟨D2, hD2⟩ : ∃ X, X = cutM d 1 := ⟨_, rfl⟩
  rw [← hL2] at k1 cl cc hB
  rw [← hD2] at k2 cd cc hB
  obtain ⟨V, hV⟩ : ∃ V, V = tdO F := ⟨_, rfl⟩
  rw [← hV] at hB hOF
  have hVl : V.length = 19 := by rw [hOF, List.length_map, hOl]
  have cv := cut_c false V (by omega) 4 (by omega)
  have k3 := cutM_len (l := V) (q := 4) (by omega)
  have hV15 : ∀ x ∈ V, x ≤ 15 := fun x hx => by
    rw [hOF] at hx
    obtain ⟨y, hy, rfl⟩ := List.mem_map.1 hx
    obtain ⟨k, hk, rfl⟩ := List.getElem_of_mem hy
    have := hOx k (by omega)
    have e : O.getD k 0 = O[k] := by simp [List.getD, hk]
    rw [← e]
    exact getD_le oF.small (by omega)
  have hQ15 := cutM_le (q := 4) hV15
  obtain ⟨Q, hQ⟩ : ∃ Q, Q = cutM V 4 := ⟨_, rfl⟩
  rw [← hQ] at cv k3 hQ15 hB
  clear hS hT hF hV hL2 hD2 hQ
  obtain ⟨C, hC⟩ : ∃ C, C = codesL l := ⟨_, rfl⟩
  obtain ⟨D, hD⟩ : ∃ D, D = codesL d := ⟨_, rfl⟩
  obtain ⟨E, hE⟩ : ∃ E, E = codesL F := ⟨_, rfl⟩
  unfold cdsA
  rw [← hC, ← hD]
  rw [cdA, ← hE] at cb
  obtain ⟨A, hA⟩ : ∃ A, A = T.map syA := ⟨_, rfl⟩
  have hAl : A.length = T.length := by rw [hA, List.length_map]
  have fA : AV.free.freeL A = true := by rw [hA]; exact free_sys
  have hgA : ∀ k, k < T.length → A.getD k .junk = .agg [.sc (.int .i64 ((T.getD k (0, 0, 0)).1 : Int)), .sc (.int .i64 ((T.getD k (0, 0, 0)).2.1 : Int)), .sc (.int .i64 ((T.getD k (0, 0, 0)).2.2 : Int))] := fun k hk => by rw [hA, getD_sy hk]; rfl
  rw [← hA] at ct cb
  repeat (first | refine wA ?_ | refine wB ?_ | refine wC rfl ?_ | refine wD rfl ?_ | refine wE ?_ | refine wF (by omega) ?_ | ((first | refine wG ?_ | refine wH ?_ | refine wI ?_ | refine wJ ?_ | refine wK ?_ | refine wL ?_); simp (disch := omega) only [wP, wZ, undef, seval, if_pos, if_neg, aStore, frz, AV.flat, ↓reduceIte, ne_eq, reduceCtorEq, ByteArray.size]))
  refine goC_p _ (.inl ⟨by simp only [AV.free, AV.free.freeL, free_nA, Bool.and_self], cl⟩) ?_
  repeat (first | refine wA ?_ | refine wB ?_ | refine wC rfl ?_ | refine wD rfl ?_ | refine wE ?_ | refine wF (by omega) ?_ | ((first | refine wG ?_ | refine wH ?_ | refine wI ?_ | refine wJ ?_ | refine wK ?_ | refine wL ?_); simp (disch := omega) only [wP, wZ, undef, seval, if_pos, if_neg, aStore, frz, AV.flat, ↓reduceIte, ne_eq, reduceCtorEq, ByteArray.size]))
  refine goC_p _ (.inl ⟨by simp only [AV.free, AV.free.freeL, free_nA, Bool.and_self], cd⟩) ?_
  repeat (first | refine wA ?_ | refine wB ?_ | refine wC rfl ?_ | refine wD rfl ?_ | refine wE ?_ | refine wF (by omega) ?_ | ((first | refine wG ?_ | refine wH ?_ | refine wI ?_ | refine wJ ?_ | refine wK ?_ | refine wL ?_); simp (disch := omega) only [wP, wZ, undef, seval, if_pos, if_neg, aStore, frz, AV.flat, ↓reduceIte, ne_eq, reduceCtorEq, ByteArray.size]))
  refine goC_f 25 3 (nl := false) (cells := [.sl false none (L2.map nA), .sl false none (D2.map nA)]) [.sl false none [.sl false none (L2.map nA), .sl false none (D2.map nA)]] _ (by simp (disch := omega) only [wP, wZ, undef, seval, if_pos, if_neg, aStore, frz, AV.flat, ↓reduceIte, ne_eq, reduceCtorEq, ByteArray.size]) (by simp (disch := omega) only [wP, wZ, undef, seval, if_pos, if_neg, aStore, frz, AV.flat, ↓reduceIte, ne_eq, reduceCtorEq, ByteArray.size, free_nA, AV.free, AV.free.freeL, Bool.and_self]) ?_ (by simp (disch := omega) only [wP, wZ, undef, seval, if_pos, if_neg, aStore, frz, AV.flat, ↓reduceIte, ne_eq, reduceCtorEq, ByteArray.size, free_nA, AV.free, AV.free.freeL, Bool.and_self]) cc ?_
  · simp (disch := omega) only [wP, wZ, undef, seval, if_pos, if_neg, aStore, frz, AV.flat, ↓reduceIte, ne_eq, reduceCtorEq, ByteArray.size, fR, iR]
  repeat (first | refine wA ?_ | refine wB ?_ | refine wC rfl ?_ | refine wD rfl ?_ | refine wE ?_ | refine wF (by omega) ?_ | ((first | refine wG ?_ | refine wH ?_ | refine wI ?_ | refine wJ ?_ | refine wK ?_ | refine wL ?_); simp (disch := omega) only [wP, wZ, undef, seval, if_pos, if_neg, aStore, frz, AV.flat, ↓reduceIte, ne_eq, reduceCtorEq, ByteArray.size, fR, iR]))
  refine goC_p _ (.inl ⟨by simp only [AV.free, AV.free.freeL, free_nA, Bool.and_self], ct⟩) ?_
  repeat (first | refine wA ?_ | refine wB ?_ | refine wC rfl ?_ | refine wD rfl ?_ | refine wE ?_ | refine wF (by omega) ?_ | ((first | refine wG ?_ | refine wH ?_ | refine wI ?_ | refine wJ ?_ | refine wK ?_ | refine wL ?_); simp (disch := omega) only [wP, wZ, undef, seval, if_pos, if_neg, aStore, frz, AV.flat, ↓reduceIte, ne_eq, reduceCtorEq, ByteArray.size]))
  refine goC_p _ (.inl ⟨by simp only [AV.free, AV.free.freeL, fA, Bool.and_self], cb⟩) ?_
  iterate 3 (first | refine wA ?_ | refine wB ?_ | refine wC rfl ?_ | refine wD rfl ?_ | refine wE ?_ | refine wF (by omega) ?_ | ((first | refine wG ?_ | refine wH ?_ | refine wI ?_ | refine wJ ?_ | refine wK ?_ | refine wL ?_); simp (disch := omega) only [wP, wZ, undef, seval, if_pos, if_neg, aStore, frz, AV.flat, ↓reduceIte, ne_eq, reduceCtorEq, ByteArray.size]))
  refine SWp.adopt 8 none (by simp (disch := omega) only [wP, wZ, undef, seval, if_pos, if_neg, aStore, frz, AV.flat, ↓reduceIte, ne_eq, reduceCtorEq, ByteArray.size]) ?_
  have htk : List.take 19 (O.map nA) = O.map nA := List.take_of_length_le (by rw [List.length_map, hOl]; exact Nat.le_refl _)
  repeat (first | refine wA ?_ | refine wB ?_ | refine wC rfl ?_ | refine wD rfl ?_ | refine wE ?_ | refine wF (by omega) ?_ | ((first | refine wG ?_ | refine wH ?_ | refine wI ?_ | refine wJ ?_ | refine wK ?_ | refine wL ?_); simp (disch := omega) only [wP, wZ, undef, seval, if_pos, if_neg, aStore, frz, AV.flat, ↓reduceIte, ne_eq, reduceCtorEq, ByteArray.size, hG, htk]))
  refine SWp.loop (α := Nat × Nat × Nat) (fun x => mk 85 x.2.2 [(2, .op 2 1 0), (4, .sl false none (L2.map nA)), (5, .sl false none (D2.map nA)), (6, .sl (nl0 T.length) (some 3) A), (7, .op 7 4 0), (8, .own 8 x.2.1 none 0 x.1), (30, .agg (O.map nA)), (31, int x.1)] [(1000, 0, .row false (wrR 0 m i)), (1001, 0, .row (nl0 m) ((bytesB L).map u8)), (2, 1, .row false [.op 1000 0 0]), (7, 4, .row false [.sl false none (F.map nA), .sl false none (E.map nA)]), (8, x.2.1, .row (nl0 x.1) ((V.take x.1).map nA))])
    (fun x => x.1 ≤ 19 ∧ x.2.2 ≤ 6 + x.1) (fun x => 19 - x.1) (0, 5, 6) ⟨Nat.zero_le _, by simp⟩ (le_mk rfl ?_ ?_ ?_) ?_
  · exact Nat.le_refl _
  · simp (disch := omega) only [wP, wZ, undef, seval, if_pos, if_neg, aStore, frz, AV.flat, ↓reduceIte, ne_eq, reduceCtorEq, ByteArray.size]
  · simp (disch := omega) only [wP, wZ, undef, seval, if_pos, if_neg, aStore, frz, AV.flat, ↓reduceIte, ne_eq, reduceCtorEq, ByteArray.size, nl0_zero, nl00]
    try rfl
  rintro ⟨k, g, gc⟩ ⟨hk, hgc⟩ -
  simp only at hk hgc
  have hVtl : (V.take k).length = k := by rw [List.length_take, hVl]; omega
  by_cases ck : k < 19
  · have dk : decide ((k : Int) < 19) = true := decide_eq_true (by omega)
    have hw := hOx k ck
    obtain ⟨w, hwe⟩ : ∃ w, w = O.getD k 0 := ⟨_, rfl⟩
    rw [← hwe] at hw
    have hgo : (O.map nA).getD k .junk = .sc (.int .i64 (w : Int)) := by rw [hwe]; exact getD_nA (by omega)
    obtain ⟨v, hv⟩ : ∃ v, v = F.getD w 0 := ⟨_, rfl⟩
    have hgf : (F.map nA).getD w .junk = .sc (.int .i64 (v : Int)) := by rw [hv]; exact getD_nA (by omega)
    have hVv : V.getD k 0 = v := by rw [hOF]; simp only [List.getD, List.getElem?_map, List.getElem?_eq_getElem (show k < O.length by omega), Option.map_some, Option.getD_some]; rw [hv, hwe]; simp [List.getD, hOl, ck]
    have hsn : (V.take k).map nA ++ [.sc (.int .i64 (v : Int))] = (V.take (k + 1)).map nA := by rw [snocD (d := 0) (by omega), List.map_append, hVv]; rfl
    have hnl : nl0 (k + 1) = false := nl0_pos (by omega)
    repeat (first | refine wA ?_ | refine wB ?_ | refine wC rfl ?_ | refine wD rfl ?_ | refine wE ?_ | refine wF (by omega) ?_ | ((first | refine wG ?_ | refine wH ?_ | refine wI ?_ | refine wJ ?_ | refine wK ?_ | refine wL ?_); simp (disch := omega) only [wP, wZ, undef, seval, if_pos, if_neg, aStore, frz, AV.flat, ↓reduceIte, ne_eq, reduceCtorEq, ByteArray.size, dk, hgo, hgf, hOl, lF, List.length_map]))
    refine At.of (k + 1, gc, gc + 1) ⟨by simp only; omega, by simp only; omega⟩ (by simp only; omega) rfl rfl (Nat.le_refl _) ?_ ?_
    iterate 2 (case _ => simp (disch := omega) only [wP, wZ, undef, seval, if_pos, if_neg, aStore, frz, AV.flat, ↓reduceIte, ne_eq, reduceCtorEq, ByteArray.size, hsn, hnl])
  have dk : decide ((k : Int) < 19) = false := decide_eq_false (by omega)
  obtain rfl : k = 19 := by omega
  rw [List.take_of_length_le (by omega)]
  have hn19 : nl0 19 = false := rfl
  obtain ⟨u, hu⟩ : ∃ u, u = L2.length - 257 := ⟨_, rfl⟩
  obtain ⟨v, hv⟩ : ∃ u, u = D2.length - 1 := ⟨_, rfl⟩
  obtain ⟨w, hw⟩ : ∃ u, u = Q.length - 4 := ⟨_, rfl⟩
  have eu : (L2.length : Int) - 257 = (u : Int) := by omega
  have ev : (D2.length : Int) - 1 = (v : Int) := by omega
  have ew : (Q.length : Int) - 4 = (w : Int) := by omega
  obtain ⟨X1, hX1⟩ : ∃ X, X = L ++ digB u 5 := ⟨_, rfl⟩
  obtain ⟨X2, hX2⟩ : ∃ X, X = X1 ++ digB v 5 := ⟨_, rfl⟩
  obtain ⟨X3, hX3⟩ : ∃ X, X = X2 ++ digB w 4 := ⟨_, rfl⟩
  have a1 := put_lt hL hX1
  have a2 := put_lt a1 hX2
  have a3 := put_lt a2 hX3
  have n1 := put_len hX1
  have n2 := put_len hX2
  have n3 := put_len hX3
  have p1 := put_y L (by omega) hL u (by omega) 5 (by omega) X1 hX1
  have p2 := put_y X1 (by omega) a1 v (by omega) 5 (by omega) X2 hX2
  have p3 := put_y X2 (by omega) a2 w (by omega) 4 (by omega) X3 hX3
  have hB3 : L ++ B = X3 ++ (Q.flatMap (fun x => digB x 3) ++ T.flatMap (symB F)) := by rw [hB, hX3, hX2, hX1, hu, hv, hw]; simp only [List.append_assoc]
  rw [hi, hm]
  rw [hB3] at hj ⊢
  clear hB hB3
  repeat (first | refine wA ?_ | refine wB ?_ | refine wC rfl ?_ | refine wD rfl ?_ | refine wE ?_ | refine wF (by omega) ?_ | ((first | refine wG ?_ | refine wH ?_ | refine wI ?_ | refine wJ ?_ | refine wK ?_ | refine wL ?_); simp (disch := omega) only [wP, wZ, undef, seval, if_pos, if_neg, aStore, frz, AV.flat, ↓reduceIte, ne_eq, reduceCtorEq, ByteArray.size, dk, hn19]))
  refine goC_f 8 g (nl := false) (cells := V.map nA) [.sl false none (V.map nA), .sc (.int .i64 ((4 : Nat) : Int))] _ (by simp (disch := omega) only [wP, wZ, undef, seval, if_pos, if_neg, aStore, frz, AV.flat, ↓reduceIte, ne_eq, reduceCtorEq, ByteArray.size, hn19]) (by simp (disch := omega) only [wP, wZ, undef, seval, if_pos, if_neg, aStore, frz, AV.flat, ↓reduceIte, ne_eq, reduceCtorEq, ByteArray.size, free_nA]) ?_ (by simp (disch := omega) only [wP, wZ, undef, seval, if_pos, if_neg, aStore, frz, AV.flat, ↓reduceIte, ne_eq, reduceCtorEq, ByteArray.size, free_nA]) cv ?_
  · simp (disch := omega) only [wP, wZ, undef, seval, if_pos, if_neg, aStore, frz, AV.flat, ↓reduceIte, ne_eq, reduceCtorEq, ByteArray.size, fR, iR, hVl, hn19]
  repeat (first | refine wA ?_ | refine wB ?_ | refine wC rfl ?_ | refine wD rfl ?_ | refine wE ?_ | refine wF (by omega) ?_ | ((first | refine wG ?_ | refine wH ?_ | refine wI ?_ | refine wJ ?_ | refine wK ?_ | refine wL ?_); simp (disch := omega) only [wP, wZ, undef, seval, if_pos, if_neg, aStore, frz, AV.flat, ↓reduceIte, ne_eq, reduceCtorEq, ByteArray.size, fR, iR, eu, List.length_map]))
  refine goC_h [(1000, 0), (1001, 0)] 2000 p1 (by simp) (by simp) ?_ ?_ ?_
  iterate 2 (case _ => simp (disch := omega) only [wP, wZ, undef, seval, if_pos, if_neg, aStore, frz, AV.flat, ↓reduceIte, ne_eq, reduceCtorEq, ByteArray.size, wrR, iR])
  repeat (first | refine wA ?_ | refine wB ?_ | refine wC rfl ?_ | refine wD rfl ?_ | refine wE ?_ | refine wF (by omega) ?_ | ((first | refine wG ?_ | refine wH ?_ | refine wI ?_ | refine wJ ?_ | refine wK ?_ | refine wL ?_); simp (disch := omega) only [wP, wZ, undef, seval, if_pos, if_neg, aStore, frz, AV.flat, ↓reduceIte, ne_eq, reduceCtorEq, ByteArray.size, wrR, iR, ev, List.length_map]))
  refine goC_h [(1000, 0), (1001, gc + 60)] 3000 p2 (by simp) (by simp) ?_ ?_ ?_
  iterate 2 (case _ => simp (disch := omega) only [wP, wZ, undef, seval, if_pos, if_neg, aStore, frz, AV.flat, ↓reduceIte, ne_eq, reduceCtorEq, ByteArray.size, wrR, iR])
  repeat (first | refine wA ?_ | refine wB ?_ | refine wC rfl ?_ | refine wD rfl ?_ | refine wE ?_ | refine wF (by omega) ?_ | ((first | refine wG ?_ | refine wH ?_ | refine wI ?_ | refine wJ ?_ | refine wK ?_ | refine wL ?_); simp (disch := omega) only [wP, wZ, undef, seval, if_pos, if_neg, aStore, frz, AV.flat, ↓reduceIte, ne_eq, reduceCtorEq, ByteArray.size, wrR, iR, ew, List.length_map]))
  refine goC_h [(1000, 0), (1001, gc + 61 + 60)] 4000 p3 (by simp) (by simp) ?_ ?_ ?_
  iterate 2 (case _ => simp (disch := omega) only [wP, wZ, undef, seval, if_pos, if_neg, aStore, frz, AV.flat, ↓reduceIte, ne_eq, reduceCtorEq, ByteArray.size, wrR, iR])
  repeat (first | refine wA ?_ | refine wB ?_ | refine wC rfl ?_ | refine wD rfl ?_ | refine wE ?_ | refine wF (by omega) ?_ | ((first | refine wG ?_ | refine wH ?_ | refine wI ?_ | refine wJ ?_ | refine wK ?_ | refine wL ?_); simp (disch := omega) only [wP, wZ, undef, seval, if_pos, if_neg, aStore, frz, AV.flat, ↓reduceIte, ne_eq, reduceCtorEq, ByteArray.size, wrR, iR, List.length_map]))
  obtain ⟨g0, hg0⟩ : ∃ x, x = gc + 61 + 61 + 60 := ⟨_, rfl⟩
  obtain ⟨gc0, hgc0⟩ : ∃ x, x = gc + 61 + 61 + 61 := ⟨_, rfl⟩
  refine SWp.loop (α := Nat × List Nat × Nat × Nat) (fun x => mk 85 x.2.2.2 [(2, .op 2 1 0), (6, .sl (nl0 T.length) (some 3) A), (7, .op 7 4 0), (63, .sl false none (Q.map nA)), (64, int Q.length), (65, int x.1)] [(1000, 0, .row false (wrR x.2.2.1 ((x.2.1.length + 7) / 8) x.2.1.length)), (1001, x.2.2.1, .row (nl0 ((x.2.1.length + 7) / 8)) ((bytesB x.2.1).map u8)), (2, 1, .row false [.op 1000 0 0]), (7, 4, .row false [.sl false none (F.map nA), .sl false none (E.map nA)])])
    (fun x => x.1 ≤ Q.length ∧ x.2.1 = X3 ++ (Q.take x.1).flatMap (fun x => digB x 3) ∧ (∀ y ∈ x.2.1, y < 2) ∧ x.2.1.length ≤ 100014 + 3 * x.1 ∧ x.2.2.2 ≤ 300 + 61 * x.1) (fun x => Q.length - x.1) (0, X3, gc + 61 + 61 + 60, gc + 61 + 61 + 61) ⟨Nat.zero_le _, by simp, a3, by simp only; omega, by simp only; omega⟩ (le_mk rfl ?_ ?_ ?_) ?_
  · exact Nat.le_refl _
  iterate 2 (case _ => simp (disch := omega) only [wP, wZ, undef, seval, if_pos, if_neg, aStore, frz, AV.flat, ↓reduceIte, ne_eq, reduceCtorEq, ByteArray.size, wrR])
  rintro ⟨k, X, g2, gd⟩ ⟨hk2, hX, hXb, hXl, hgd⟩ -
  simp only at hk2 hX hXb hXl hgd
  by_cases ck2 : k < Q.length
  · have dk : decide ((k : Int) < (Q.length : Int)) = true := decide_eq_true (by omega)
    obtain ⟨x, hx⟩ : ∃ x, x = Q.getD k 0 := ⟨_, rfl⟩
    have hgq : (Q.map nA).getD k .junk = .sc (.int .i64 (x : Int)) := by rw [hx]; exact getD_nA ck2
    have hx15 : x ≤ 15 := by rw [hx]; exact getD_le hQ15 ck2
    obtain ⟨Y, hY⟩ : ∃ Y, Y = X ++ digB x 3 := ⟨_, rfl⟩
    have py := put_y X (by omega) hXb x (by omega) 3 (by omega) Y hY
    have hYl := put_len hY
    repeat (first | refine wA ?_ | refine wB ?_ | refine wC rfl ?_ | refine wD rfl ?_ | refine wE ?_ | refine wF (by omega) ?_ | ((first | refine wG ?_ | refine wH ?_ | refine wI ?_ | refine wJ ?_ | refine wK ?_ | refine wL ?_); simp (disch := omega) only [wP, wZ, undef, seval, if_pos, if_neg, aStore, frz, AV.flat, ↓reduceIte, ne_eq, reduceCtorEq, ByteArray.size, dk, hgq, wrR, List.length_map]))
    refine goC_h [(1000, 0), (1001, g2)] 2000 py (by simp) (by simp) ?_ ?_ ?_
    iterate 2 (case _ => simp (disch := omega) only [wP, wZ, undef, seval, if_pos, if_neg, aStore, frz, AV.flat, ↓reduceIte, ne_eq, reduceCtorEq, ByteArray.size, wrR, iR])
    repeat (first | refine wA ?_ | refine wB ?_ | refine wC rfl ?_ | refine wD rfl ?_ | refine wE ?_ | refine wF (by omega) ?_ | ((first | refine wG ?_ | refine wH ?_ | refine wI ?_ | refine wJ ?_ | refine wK ?_ | refine wL ?_); simp (disch := omega) only [wP, wZ, undef, seval, if_pos, if_neg, aStore, frz, AV.flat, ↓reduceIte, ne_eq, reduceCtorEq, ByteArray.size, wrR, iR]))
    refine At.of (k + 1, Y, gd + 60, gd + 61) ⟨by simp only; omega, by simp only; rw [hY, hX, snocD (d := 0) ck2, ← hx, List.flatMap_append]; simp [List.append_assoc], put_lt hXb hY, by simp only; omega, by simp only; omega⟩ (by simp only; omega) rfl rfl (Nat.le_refl _) ?_ ?_
    iterate 2 (case _ => simp (disch := omega) only [wP, wZ, undef, seval, if_pos, if_neg, aStore, frz, AV.flat, ↓reduceIte, ne_eq, reduceCtorEq, ByteArray.size, wrR])
  have dk : decide ((k : Int) < (Q.length : Int)) = false := decide_eq_false (by omega)
  obtain rfl : k = Q.length := by omega
  rw [List.take_of_length_le (Nat.le_refl _)] at hX
  have hB4 : X3 ++ (Q.flatMap (fun x => digB x 3) ++ T.flatMap (symB F)) = X ++ T.flatMap (symB F) := by rw [hX, List.append_assoc]
  rw [hB4] at hj ⊢
  clear hB4 hX
  repeat (first | refine wA ?_ | refine wB ?_ | refine wC rfl ?_ | refine wD rfl ?_ | refine wE ?_ | refine wF (by omega) ?_ | ((first | refine wG ?_ | refine wH ?_ | refine wI ?_ | refine wJ ?_ | refine wK ?_ | refine wL ?_); simp (disch := omega) only [wP, wZ, undef, seval, if_pos, if_neg, aStore, frz, AV.flat, ↓reduceIte, ne_eq, reduceCtorEq, ByteArray.size, dk, hAl]))
  refine SWp.loop (α := Nat × List Nat × Nat × Nat) (fun x => mk 85 x.2.2.2 [(2, .op 2 1 0), (7, .op 7 4 0), (74, .sl (nl0 T.length) (some 3) A), (75, int T.length), (76, int x.1)] [(1000, 0, .row false (wrR x.2.2.1 ((x.2.1.length + 7) / 8) x.2.1.length)), (1001, x.2.2.1, .row (nl0 ((x.2.1.length + 7) / 8)) ((bytesB x.2.1).map u8)), (2, 1, .row false [.op 1000 0 0]), (7, 4, .row false [.sl false none (F.map nA), .sl false none (E.map nA)])])
    (fun x => x.1 ≤ T.length ∧ x.2.1 = X ++ (T.take x.1).flatMap (symB F) ∧ (∀ y ∈ x.2.1, y < 2) ∧ x.2.1.length ≤ 110000 + 39 * x.1 ∧ x.2.2.2 ≤ 20000 + 127 * x.1) (fun x => T.length - x.1) (0, X, g2, gd) ⟨Nat.zero_le _, by simp, hXb, by simp only; omega, by simp only; omega⟩ (le_mk rfl ?_ ?_ ?_) ?_
  · exact Nat.le_refl _
  iterate 2 (case _ => simp (disch := omega) only [wP, wZ, undef, seval, if_pos, if_neg, aStore, frz, AV.flat, ↓reduceIte, ne_eq, reduceCtorEq, ByteArray.size, wrR])
  rintro ⟨k, Z, g3, ge⟩ ⟨hk3, hZ, hZb, hZl, hge⟩ -
  simp only at hk3 hZ hZb hZl hge
  by_cases ck3 : k < T.length
  · have dk : decide ((k : Int) < (T.length : Int)) = true := decide_eq_true (by omega)
    have hg := hgA k ck3
    obtain ⟨s, hs⟩ : ∃ s, s = T.getD k (0, 0, 0) := ⟨_, rfl⟩
    rw [← hs] at hg
    have hsT : s ∈ T := by
      have : T.getD k (0, 0, 0) = T[k] := by simp [List.getD, ck3]
      rw [hs, this]; exact List.getElem_mem _
    have so := o1 s hsT
    have sy : SyOk F s := ⟨by rw [lF]; exact so.num, by have := so.more; omega, by have := so.bits; omega⟩
    obtain ⟨Y, hY⟩ : ∃ Y, Y = Z ++ symB F s := ⟨_, rfl⟩
    have hYl : Y.length ≤ Z.length + 39 := by rw [hY, List.length_append]; have := symB_len oF sy; omega
    have ps := packer_symbol_h Z (by omega) hZb false F oF s sy Z.length ((Z.length + 7) / 8) rfl rfl Y.length (by rw [hY])
    rw [← hY, cdA, ← hE, syA] at ps
    repeat (first | refine wA ?_ | refine wB ?_ | refine wC rfl ?_ | refine wD rfl ?_ | refine wE ?_ | refine wF (by omega) ?_ | ((first | refine wG ?_ | refine wH ?_ | refine wI ?_ | refine wJ ?_ | refine wK ?_ | refine wL ?_); simp (disch := omega) only [wP, wZ, undef, seval, if_pos, if_neg, aStore, frz, AV.flat, ↓reduceIte, ne_eq, reduceCtorEq, ByteArray.size, dk, hg, hAl, wrR]))
    refine goC_h [(1000, 0), (1001, g3)] 2000 ps (by simp) (by simp) ?_ ?_ ?_
    iterate 2 (case _ => simp (disch := omega) only [wP, wZ, undef, seval, if_pos, if_neg, aStore, frz, AV.flat, ↓reduceIte, ne_eq, reduceCtorEq, ByteArray.size, wrR, iR])
    repeat (first | refine wA ?_ | refine wB ?_ | refine wC rfl ?_ | refine wD rfl ?_ | refine wE ?_ | refine wF (by omega) ?_ | ((first | refine wG ?_ | refine wH ?_ | refine wI ?_ | refine wJ ?_ | refine wK ?_ | refine wL ?_); simp (disch := omega) only [wP, wZ, undef, seval, if_pos, if_neg, aStore, frz, AV.flat, ↓reduceIte, ne_eq, reduceCtorEq, ByteArray.size, wrR, iR]))
    refine At.of (k + 1, Y, ge + 1 + 125, ge + 1 + 126) ⟨by simp only; omega, by simp only; rw [hY, hZ, snocD (d := (0, 0, 0)) ck3, ← hs, List.flatMap_append]; simp [List.append_assoc], fun y hy => by simp only at hy; rw [hY] at hy; exact (List.mem_append.1 hy).elim (hZb y) (symB_lt y), by simp only; omega, by simp only; omega⟩ (by simp only; omega) rfl rfl (Nat.le_refl _) ?_ ?_
    iterate 2 (case _ => simp (disch := omega) only [wP, wZ, undef, seval, if_pos, if_neg, aStore, frz, AV.flat, ↓reduceIte, ne_eq, reduceCtorEq, ByteArray.size, wrR])
  have dk : decide ((k : Int) < (T.length : Int)) = false := decide_eq_false (by omega)
  rw [List.take_of_length_le (by omega)] at hZ
  rw [← hZ] at hj ⊢
  rw [hj]
  iterate 4 (first | refine wA ?_ | refine wB ?_ | refine wC rfl ?_ | refine wD rfl ?_ | refine wE ?_ | refine wF (by omega) ?_ | ((first | refine wG ?_ | refine wH ?_ | refine wI ?_ | refine wJ ?_ | refine wK ?_ | refine wL ?_); simp (disch := omega) only [wP, wZ, undef, seval, if_pos, if_neg, aStore, frz, AV.flat, ↓reduceIte, ne_eq, reduceCtorEq, ByteArray.size, dk]))
  refine SWp.le (le_mk (N := 85) (gc := KE + 1) (l := []) (h := [(1000, 0, .row false (wrR g3 ((Z.length + 7) / 8) Z.length)), (1001, g3, .row (nl0 ((Z.length + 7) / 8)) ((bytesB Z).map u8))]) rfl ?_ ?_ ?_) ?_
  · have := KE_eq
    show ge ≤ KE + 1
    omega
  iterate 2 (case _ => simp (disch := omega) only [wP, wZ, undef, seval, if_pos, if_neg, aStore, frz, AV.flat, ↓reduceIte, ne_eq, reduceCtorEq, ByteArray.size, wrR])
  refine SWp.renew 1001 g3 (o := .row (nl0 ((Z.length + 7) / 8)) ((bytesB Z).map u8)) (by simp (disch := omega) only [wP, wZ, undef, seval, if_pos, if_neg, aStore, frz, AV.flat, ↓reduceIte, ne_eq, reduceCtorEq, ByteArray.size]) ?_
  refine SWp.le (le_mk (N := 85) (gc := KE + 2) (l := []) (h := [(1000, 0, .row false (wrR (KE + 1) ((Z.length + 7) / 8) Z.length)), (1001, KE + 1, .row (nl0 ((Z.length + 7) / 8)) ((bytesB Z).map u8))]) rfl ?_ ?_ ?_) ?_
  iterate 3 (case _ => simp (disch := omega) only [wP, wZ, undef, seval, if_pos, if_neg, aStore, frz, AV.flat, ↓reduceIte, ne_eq, reduceCtorEq, ByteArray.size, rgn_eq, rgH_at, renL_u8, iR, wrR])
  repeat (first | refine wA ?_ | refine wB ?_ | refine wC rfl ?_ | refine wD rfl ?_ | refine wE ?_ | refine wF (by omega) ?_ | ((first | refine wG ?_ | refine wH ?_ | refine wI ?_ | refine wJ ?_ | refine wK ?_ | refine wL ?_); simp (disch := omega) only [wP, wZ, undef, seval, if_pos, if_neg, aStore, frz, AV.flat, ↓reduceIte, ne_eq, reduceCtorEq, ByteArray.size, iR, wrR]))
end Go.Proofs.YtbmppmdklappiaaDoor.Aw
namespace Go.Proofs.YtbmppmdklappiaaDoor.Aw
open Go
set_option linter.unusedSimpArgs false
set_option linter.unusedVariables false
theorem flat3_len : ∀ {Q : List Nat}, (Q.flatMap fun x => digB x 3).length = 3 * Q.length
  | [] => rfl
  | x :: Q => by rw [List.flatMap_cons, List.length_append, length_digB, flat3_len, List.length_cons]; omega
theorem flatS_len {F : List Nat} (oF : LnOk F) : ∀ {T : List (Nat × Nat × Nat)}, (∀ s ∈ T, SyOk F s) → (T.flatMap (symB F)).length ≤ 39 * T.length
  | [], _ => Nat.le_refl _
  | s :: T, h => by
    rw [List.flatMap_cons, List.length_append, List.length_cons]
    have := symB_len oF (h s (by simp))
    have := flatS_len oF (T := T) fun t ht => h t (by simp [ht])
    omega
theorem tell_facts {l d : List Nat} (ol : LnOk l) (od : LnOk d) (l1 : l.length = 286) (d1 : d.length = 30) : (tellB l d).length ≤ 20000 ∧ ∀ x ∈ tellB l d, x < 2 := by
  have k1 := cutM_len (l := l) (q := 257) (by omega)
  have k2 := cutM_len (l := d) (q := 1) (by omega)
  have h15 : ∀ x ∈ tdL l d, x ≤ 15 := fun x hx => (List.mem_append.1 hx).elim (cutM_le ol.small x) (cutM_le od.small x)
  have kl : (tdL l d).length ≤ 320 := by rw [tdL, List.length_append]; omega
  obtain ⟨o1, o2⟩ := tls_ok h15
  have oF : LnOk (tdF l d) := lens_LnOk (ctT_ok (by omega))
  have lF : (tdF l d).length = 19 := by rw [tdF, length_lens, ctT, length_ctN]
  have lV : (tdO (tdF l d)).length = 19 := by rw [tdO, List.length_map]; rfl
  have k3 := cutM_len (l := tdO (tdF l d)) (q := 4) (by omega)
  have sy : ∀ s ∈ tls (tdL l d), SyOk (tdF l d) s := fun s hs => ⟨by rw [lF]; exact (o1 s hs).num, by have := (o1 s hs).more; omega, by have := (o1 s hs).bits; omega⟩
  have kT := flatS_len oF sy
  constructor
  · rw [tellB]
    simp only [List.length_append, length_digB]
    rw [flat3_len]
    omega
  · intro x hx
    rw [tellB] at hx
    rcases List.mem_append.1 hx with hx | hx
    · exact digB_lt x hx
    rcases List.mem_append.1 hx with hx | hx
    · exact digB_lt x hx
    rcases List.mem_append.1 hx with hx | hx
    · exact digB_lt x hx
    rcases List.mem_append.1 hx with hx | hx
    · obtain ⟨y, _, hx⟩ := List.mem_flatMap.1 hx
      exact digB_lt x hx
    · obtain ⟨y, _, hx⟩ := List.mem_flatMap.1 hx
      exact symB_lt x hx
def bsL (P : List (Nat × Nat)) : List Nat := lensB (litCt P) 15
def bsD (P : List (Nat × Nat)) : List Nat := lensB (dstCt P) 15
def dynB (P : List (Nat × Nat)) : List Nat := digB 1 1 ++ digB 2 2 ++ (tellB (bsL P) (bsD P) ++ pcsB (bsL P) (bsD P) P)
theorem bs_facts {P : List (Nat × Nat)} (h : P.length ≤ 20000) : LnOk (bsL P) ∧ LnOk (bsD P) ∧ (bsL P).length = 286 ∧ (bsD P).length = 30 :=
  ⟨lens_LnOk (litCt_ok h), lens_LnOk (dstCt_ok h), by rw [bsL, length_lens, litCt, length_ctN], by rw [bsD, length_lens, dstCt, length_ctN]⟩
set_option maxHeartbeats 1000000 in
set_option maxRecDepth 100000 in
theorem packer_dynamic_h [Tabs Tryd.prog] (ht : Tabs.tab Tryd.prog 0 = some (tlO.map nA)) (L : List Nat) (hl : L.length ≤ 50000) (hL : ∀ x ∈ L, x < 2) (nl : Bool) (P : List (Nat × Nat)) (hP : P.length ≤ 20000) (hok : ∀ p ∈ P, pcOk p) (i m : Nat) (hi : i = L.length) (hm : m = (L.length + 7) / 8) (j : Nat) (hj : j = (L ++ dynB P).length) :
    HCon Tryd.prog n_deflate_packer_dynamic [.agg [.op 1000 0 0], .sl nl (some 2) (P.map pcA)] [.row false (wrR 0 m i), .row (nl0 m) ((bytesB L).map u8)] (.tup [])
      [(1000, 0, .row false (wrR (127 + (KE + 2) + (KE + 1)) ((j + 7) / 8) j)), (1001, 127 + (KE + 2) + (KE + 1), .row (nl0 ((j + 7) / 8)) ((bytesB (L ++ dynB P)).map u8))] (127 + (KE + 2) + (KE + 2)) := by
  refine HCon.of' mix Tryd.func26 rfl Tryd.ntmps26 e_deflate_packer_dynamic r_deflate_packer_dynamic (by simp) ?_ wr_gl ?_
  · simp only [AV.gl.glL, AV.gl, and_true, true_and]
    exact ⟨by omega, glL_of_free _ _ free_pcs⟩
  unfold s_deflate_packer_dynamic
  obtain ⟨ol, od, l1, d1⟩ := bs_facts hP
  obtain ⟨t1, t2⟩ := tell_facts ol od l1 d1
  obtain ⟨X, hX⟩ : ∃ X, X = L ++ (digB 1 1 ++ digB 2 2) := ⟨_, rfl⟩
  obtain ⟨Z, hZ⟩ : ∃ Z, Z = X ++ tellB (bsL P) (bsD P) := ⟨_, rfl⟩
  obtain ⟨Y, hY⟩ : ∃ Y, Y = L ++ dynB P := ⟨_, rfl⟩
  have hXl : X.length = i + 1 + 2 := by rw [hX, List.length_append, List.length_append, length_digB, length_digB, hi]
  have hX2 : ∀ x ∈ X, x < 2 := fun x hx => by
    rw [hX] at hx
    rcases List.mem_append.1 hx with hx | hx
    · exact hL x hx
    · rcases List.mem_append.1 hx with hx | hx <;> exact digB_lt x hx
  have hZl : Z.length ≤ i + 1 + 2 + 20000 := by rw [hZ, List.length_append]; omega
  have hZ2 : ∀ x ∈ Z, x < 2 := fun x hx => by rw [hZ] at hx; exact (List.mem_append.1 hx).elim (hX2 x) (t2 x)
  have hYe : Z ++ pcsB (bsL P) (bsD P) P = Y := by rw [hZ, hX, hY, dynB]; simp only [List.append_assoc]
  have p1 := packer_begin_h L (by omega) hL 1 2 (by omega) (by omega) i m hi hm
  have p2 := packer_tell_h ht X (by omega) hX2 (bsL P) (bsD P) ol od l1 d1 (i + 1 + 2) ((i + 1 + 2 + 7) / 8) hXl.symm (by rw [hXl]) Z.length (by rw [hZ])
  have p3 := packer_pieces_h Z (by omega) hZ2 nl P hP hok (bsL P) (bsD P) ol od (by omega) (by omega) Z.length ((Z.length + 7) / 8) rfl rfl j (by rw [hYe, hj, hY])
  have pb := bestCodes_c nl P hP hok
  rw [← bsL, ← bsD] at pb
  rw [hYe] at p3
  rw [← hZ] at p2
  rw [← hY]
  rw [← hX] at p1
  have hrF : ∀ ρ, ren.renL ρ ((bsL P).map nA) = (bsL P).map nA := fun ρ => renL_free ρ _ free_nA
  obtain ⟨l, hl2⟩ : ∃ F, F = bsL P := ⟨_, rfl⟩
  obtain ⟨d, hd2⟩ : ∃ F, F = bsD P := ⟨_, rfl⟩
  rw [← hl2, ← hd2] at p2 p3 pb
  obtain ⟨A, hA⟩ : ∃ A, A = P.map pcA := ⟨_, rfl⟩
  have hrA : ∀ ρ, ren.renL ρ A = A := fun ρ => by rw [hA]; exact renL_free ρ _ free_pcs
  have fA : AV.free.freeL A = true := by rw [hA]; exact free_pcs
  rw [← hA] at p3 pb ⊢
  obtain ⟨C, hC⟩ : ∃ C, C = codesL l := ⟨_, rfl⟩
  obtain ⟨D, hD⟩ : ∃ D, D = codesL d := ⟨_, rfl⟩
  rw [cdsA, ← hC, ← hD] at p2 p3 pb
  repeat (first | refine wA ?_ | refine wB ?_ | refine wC rfl ?_ | refine wD rfl ?_ | refine wE ?_ | refine wF (by omega) ?_ | ((first | refine wG ?_ | refine wH ?_ | refine wI ?_ | refine wJ ?_ | refine wK ?_ | refine wL ?_); simp (disch := omega) only [wP, wZ, undef, seval, if_pos, if_neg, aStore, frz, AV.flat, ↓reduceIte, ne_eq, reduceCtorEq, ByteArray.size]))
  refine goC_p _ (.inl ⟨by simp only [AV.free, AV.free.freeL, fA, Bool.and_self], pb⟩) ?_
  repeat (first | refine wA ?_ | refine wB ?_ | refine wC rfl ?_ | refine wD rfl ?_ | refine wE ?_ | refine wF (by omega) ?_ | ((first | refine wG ?_ | refine wH ?_ | refine wI ?_ | refine wJ ?_ | refine wK ?_ | refine wL ?_); simp (disch := omega) only [wP, wZ, undef, seval, if_pos, if_neg, aStore, frz, AV.flat, ↓reduceIte, ne_eq, reduceCtorEq, ByteArray.size]))
  refine goC_h [(1000, 0), (1001, 0)] 2000 p1 (by simp) (by simp) ?_ ?_ ?_
  iterate 2 (case _ => simp (disch := omega) only [wP, wZ, undef, seval, if_pos, if_neg, aStore, frz, AV.flat, ↓reduceIte, ne_eq, reduceCtorEq, ByteArray.size, wrR, iR])
  repeat (first | refine wA ?_ | refine wB ?_ | refine wC rfl ?_ | refine wD rfl ?_ | refine wE ?_ | refine wF (by omega) ?_ | ((first | refine wG ?_ | refine wH ?_ | refine wI ?_ | refine wJ ?_ | refine wK ?_ | refine wL ?_); simp (disch := omega) only [wP, wZ, undef, seval, if_pos, if_neg, aStore, frz, AV.flat, ↓reduceIte, ne_eq, reduceCtorEq, ByteArray.size, wrR, iR]))
  refine goC_h [(1000, 0), (1001, 126)] 3000 p2 (by simp) (by simp) ?_ ?_ ?_
  iterate 2 (case _ => simp (disch := omega) only [wP, wZ, undef, seval, if_pos, if_neg, aStore, frz, AV.flat, ↓reduceIte, ne_eq, reduceCtorEq, ByteArray.size, wrR, iR])
  repeat (first | refine wA ?_ | refine wB ?_ | refine wC rfl ?_ | refine wD rfl ?_ | refine wE ?_ | refine wF (by omega) ?_ | ((first | refine wG ?_ | refine wH ?_ | refine wI ?_ | refine wJ ?_ | refine wK ?_ | refine wL ?_); simp (disch := omega) only [wP, wZ, undef, seval, if_pos, if_neg, aStore, frz, AV.flat, ↓reduceIte, ne_eq, reduceCtorEq, ByteArray.size, wrR, iR]))
  refine goC_h [(1000, 0), (1001, 127 + (KE + 1))] 4000 p3 (by simp) (by simp) ?_ ?_ ?_
  iterate 2 (case _ => simp (disch := omega) only [wP, wZ, undef, seval, if_pos, if_neg, aStore, frz, AV.flat, ↓reduceIte, ne_eq, reduceCtorEq, ByteArray.size, wrR, iR, hrA])
  repeat (first | refine wA ?_ | refine wB ?_ | refine wC rfl ?_ | refine wD rfl ?_ | refine wE ?_ | refine wF (by omega) ?_ | ((first | refine wG ?_ | refine wH ?_ | refine wI ?_ | refine wJ ?_ | refine wK ?_ | refine wL ?_); simp (disch := omega) only [wP, wZ, undef, seval, if_pos, if_neg, aStore, frz, AV.flat, ↓reduceIte, ne_eq, reduceCtorEq, ByteArray.size, wrR, iR]))
end Go.Proofs.YtbmppmdklappiaaDoor.Aw
namespace Go.Proofs.YtbmppmdklappiaaDoor.Aw
open Go
set_option linter.unusedSimpArgs false
set_option linter.unusedVariables false
def leB (n : Nat) (size : Nat) : List UInt8 := (List.range size).map fun i => UInt8.ofNat (n / 2 ^ (8 * i))
def beR (n : Nat) (size : Int) : AV := if size < 1 ∨ 8 < size then .sc (.slice none 0 0) else .sl false none ((leB n size.toNat).reverse.map u8)
theorem length_leB {n m : Nat} : (leB n m).length = m := by simp [leB]
theorem wrap_u64_id {x : Int} (h1 : 0 ≤ x) (h2 : x < 18446744073709551616) : IntKind.u64.wrap x = x := wrap_u64_id3 h1 h2
theorem take_snoc (b : List UInt8) (k : Nat) (h : k < b.length) : b.take (k + 1) = b.take k ++ [b.getD k 0] := snocD h
theorem leB_succ (n k : Nat) : (leB n (k + 1)).reverse = UInt8.ofNat (n / 2 ^ (8 * k)) :: (leB n k).reverse := by
  simp [leB, List.range_succ]
set_option maxRecDepth 100000 in
theorem ref_Be_c [Tabs Tryd.prog] (n : Nat) (hn : n < 18446744073709551616) (size : Int) (h1 : -9223372036854775808 ≤ size) (h2 : size ≤ 9223372036854775807) : Con Tryd.prog n_drayageref01_Be [.sc (.int .u64 n), int size] (beR n size) := by
  refine Con.of' mix Tryd.func29 rfl Tryd.ntmps29 e_drayageref01_Be r_drayageref01_Be (by simp) rfl (by unfold beR; split <;> simp only [AV.free, free_u8]) ?_
  unfold s_drayageref01_Be
  by_cases c1 : size < 1
  · have d1 : decide (size < 1) = true := decide_eq_true c1
    have hu : beR n size = .sc (.slice none 0 0) := if_pos (.inl c1)
    repeat (first | refine wA ?_ | refine wB ?_ | refine wC rfl ?_ | refine wD rfl ?_ | refine wE ?_ | refine wF (by omega) ?_ | ((first | refine wG ?_ | refine wH ?_ | refine wI ?_ | refine wJ ?_ | refine wK ?_ | refine wL ?_); simp (disch := omega) only [wP, wZ, undef, seval, if_pos, if_neg, aStore, frz, AV.flat, ↓reduceIte, ne_eq, reduceCtorEq, ByteArray.size, d1, hu]))
  · have d1 : decide (size < 1) = false := decide_eq_false c1
    by_cases c2 : 8 < size
    · have d2 : decide (8 < size) = true := decide_eq_true c2
      have hu : beR n size = .sc (.slice none 0 0) := if_pos (.inr c2)
      repeat (first | refine wA ?_ | refine wB ?_ | refine wC rfl ?_ | refine wD rfl ?_ | refine wE ?_ | refine wF (by omega) ?_ | ((first | refine wG ?_ | refine wH ?_ | refine wI ?_ | refine wJ ?_ | refine wK ?_ | refine wL ?_); simp (disch := omega) only [wP, wZ, undef, seval, if_pos, if_neg, aStore, frz, AV.flat, ↓reduceIte, ne_eq, reduceCtorEq, ByteArray.size, d1, d2, hu]))
    · have d2 : decide (8 < size) = false := decide_eq_false c2
      have hu : beR n size = .sl false none ((leB n size.toNat).reverse.map u8) := if_neg (by omega)
      obtain ⟨m, rfl⟩ : ∃ m : Nat, size = m := ⟨size.toNat, by omega⟩
      repeat (first | refine wA ?_ | refine wB ?_ | refine wC rfl ?_ | refine wD rfl ?_ | refine wE ?_ | refine wF (by omega) ?_ | ((first | refine wG ?_ | refine wH ?_ | refine wI ?_ | refine wJ ?_ | refine wK ?_ | refine wL ?_); simp (disch := omega) only [wP, wZ, undef, seval, if_pos, if_neg, aStore, frz, AV.flat, ↓reduceIte, ne_eq, reduceCtorEq, ByteArray.size, d1, d2]))
      refine SWp.le (le_mk (N := 27) (gc := 1) (l := [(0, .sc (.int .u64 n)), (1, int m), (5, .sc (.slice none 0 0)), (6, int 0)]) (h := []) rfl (Nat.zero_le _) (by simp (disch := omega) only [wP, wZ, undef, seval, if_pos, if_neg, aStore, frz, AV.flat, ↓reduceIte, ne_eq, reduceCtorEq, ByteArray.size]) (by simp (disch := omega) only [wP, wZ, undef, seval, if_pos, if_neg, aStore, frz, AV.flat, ↓reduceIte, ne_eq, reduceCtorEq, ByteArray.size])) ?_
      refine SWp.adopt 5 none (by simp (disch := omega) only [wP, wZ, undef, seval, if_pos, if_neg, aStore, frz, AV.flat, ↓reduceIte, ne_eq, reduceCtorEq, ByteArray.size]) ?_
      refine SWp.swap 5 21 (by simp (disch := omega) only [wP, wZ, undef, seval, if_pos, if_neg, aStore, frz, AV.flat, ↓reduceIte, ne_eq, reduceCtorEq, ByteArray.size, genOk]) (by simp (disch := omega) only [wP, wZ, undef, seval, if_pos, if_neg, aStore, frz, AV.flat, ↓reduceIte, ne_eq, reduceCtorEq, ByteArray.size, genOk]) ?_
      refine SWp.loop (α := Nat × Nat × Nat × Nat) (fun x => mk 27 x.2.2.1 [(0, .sc (.int .u64 x.2.2.2)), (1, int m), (5, .own 21 x.2.1 none 0 x.1), (6, int x.1)] [(21, x.2.1, .row (nl0 x.1) ((leB n x.1).reverse.map u8))])
        (fun x => x.1 ≤ m ∧ 1 ≤ x.2.1 ∧ x.2.2.2 = n / 2 ^ (8 * x.1) ∧ x.2.2.2 < 18446744073709551616) (fun x => m - x.1) (0, 1, 2, n) ⟨Nat.zero_le _, Nat.le_refl _, by simp, hn⟩ (le_mk rfl ?_ ?_ ?_) ?_
      · exact Nat.le_refl _
      iterate 2 (case _ => simp (disch := omega) only [wP, wZ, undef, seval, if_pos, if_neg, aStore, frz, AV.flat, ↓reduceIte, ne_eq, reduceCtorEq, ByteArray.size, sw, swr_eq, swH, leB, List.range_zero, List.reverse_nil, nl0_zero])
      · rintro ⟨k, g, c, v⟩ ⟨hk, hg, hv, hle⟩ -
        simp only at hk hg hv hle
        refine SWp.swap 21 2021 (by simp (disch := omega) only [wP, wZ, undef, seval, if_pos, if_neg, aStore, frz, AV.flat, ↓reduceIte, ne_eq, reduceCtorEq, ByteArray.size, genOk]; exact hg) (by simp (disch := omega) only [wP, wZ, undef, seval, if_pos, if_neg, aStore, frz, AV.flat, ↓reduceIte, ne_eq, reduceCtorEq, ByteArray.size, genOk]) ?_
        refine SWp.le (le_mk (N := 27) (gc := c) (l := [(0, .sc (.int .u64 v)), (1, int m), (5, .own 2021 g none 0 k), (6, int k)]) (h := [(2021, g, .row (nl0 k) ((leB n k).reverse.map u8))]) rfl (Nat.le_refl _) (by simp (disch := omega) only [wP, wZ, undef, seval, if_pos, if_neg, aStore, frz, AV.flat, ↓reduceIte, ne_eq, reduceCtorEq, ByteArray.size, sw, swr_eq]) (by simp (disch := omega) only [wP, wZ, undef, seval, if_pos, if_neg, aStore, frz, AV.flat, ↓reduceIte, ne_eq, reduceCtorEq, ByteArray.size, sw, swr_eq, swH])) ?_
        have hlk : (leB n k).reverse.length = k := by simp [leB]
        have hh : (leB n (k + 1)).reverse = UInt8.ofNat v :: (leB n k).reverse := by rw [hv]; exact leB_succ n k
        repeat (first | refine wA ?_ | refine wB ?_ | refine wC rfl ?_ | refine wD rfl ?_ | refine wE ?_ | refine wF (by omega) ?_ | ((first | refine wG ?_ | refine wH ?_ | refine wI ?_ | refine wJ ?_ | refine wK ?_ | refine wL ?_); simp (disch := omega) only [wP, wZ, undef, seval, if_pos, if_neg, aStore, frz, AV.flat, ↓reduceIte, ne_eq, reduceCtorEq, ByteArray.size]))
        refine SWp.cond rfl (fun h => ?_) (fun h => ?_)
        · simp only [decide_eq_true_eq] at h
          have hk8 : k < m := by omega
          repeat (first | refine wA ?_ | refine wB ?_ | refine wC rfl ?_ | refine wD rfl ?_ | refine wE ?_ | refine wF (by omega) ?_ | ((first | refine wG ?_ | refine wH ?_ | refine wI ?_ | refine wJ ?_ | refine wK ?_ | refine wL ?_); simp (disch := omega) only [wP, wZ, undef, seval, if_pos, if_neg, aStore, frz, AV.flat, ↓reduceIte, ne_eq, reduceCtorEq, ByteArray.size, hlk, wrap_u64_id]))
          refine At.of (k + 1, c + 1, c + 2, v / 256) ⟨by simp only; omega, by simp only; omega, by simp only; rw [hv, Nat.div_div_eq_div_mul, show 8 * (k + 1) = 8 * k + 8 by omega, Nat.pow_add], by simp only; omega⟩ (by simp only; omega) rfl rfl (Nat.le_refl _) ?_ ?_
          · simp (disch := omega) only [wP, wZ, undef, seval, if_pos, if_neg, aStore, frz, AV.flat, ↓reduceIte, ne_eq, reduceCtorEq, ByteArray.size]
            omega
          · simp (disch := omega) only [wP, wZ, undef, seval, if_pos, if_neg, aStore, frz, AV.flat, ↓reduceIte, ne_eq, reduceCtorEq, ByteArray.size, hh, nl0_succ, UInt8.toNat_ofNat']
        · simp only [decide_eq_false_iff_not] at h
          obtain rfl : k = m := by omega
          repeat (first | refine wA ?_ | refine wB ?_ | refine wC rfl ?_ | refine wD rfl ?_ | refine wE ?_ | refine wF (by omega) ?_ | ((first | refine wG ?_ | refine wH ?_ | refine wI ?_ | refine wJ ?_ | refine wK ?_ | refine wL ?_); simp (disch := omega) only [wP, wZ, undef, seval, if_pos, if_neg, aStore, frz, AV.flat, ↓reduceIte, ne_eq, reduceCtorEq, ByteArray.size, hlk, hu, nl0_pos, List.take_of_length_le]))
set_option maxRecDepth 100000 in
theorem ref_Turned_c [Tabs Tryd.prog] (nl : Bool) (l : List UInt8) (hl : l.length ≤ 1000000) : Con Tryd.prog n_drayageref01_Turned [.sl nl none (l.map u8)] (.sl (nl0 l.length) none (l.reverse.map u8)) := by
  refine Con.of' mix Tryd.func28 rfl Tryd.ntmps28 e_drayageref01_Turned r_drayageref01_Turned (by simp) (by simp only [AV.free, AV.free.freeL, free_u8, Bool.and_self]) (by simp only [AV.free, free_u8]) ?_
  unfold s_drayageref01_Turned
  repeat (first | refine wA ?_ | refine wB ?_ | refine wC rfl ?_ | refine wD rfl ?_ | refine wE ?_ | refine wF (by omega) ?_ | ((first | refine wG ?_ | refine wH ?_ | refine wI ?_ | refine wJ ?_ | refine wK ?_ | refine wL ?_); simp (disch := omega) only [wP, wZ, undef, seval, if_pos, if_neg, aStore, frz, AV.flat, ↓reduceIte, ne_eq, reduceCtorEq, ByteArray.size]))
  refine SWp.adopt 3 none (by simp (disch := omega) only [wP, wZ, undef, seval, if_pos, if_neg, aStore, frz, AV.flat, ↓reduceIte, ne_eq, reduceCtorEq, ByteArray.size]) ?_
  refine SWp.loop (α := Nat × Nat × Nat) (fun x => mk 20 x.2.2 [(0, .sl nl none (l.map u8)), (3, .own 3 x.2.1 none 0 x.1), (4, int ((l.length : Int) - 1 - x.1))] [(3, x.2.1, .row (nl0 x.1) ((l.reverse.take x.1).map u8))])
    (fun x => x.1 ≤ l.length) (fun x => l.length - x.1) (0, 0, 1) (Nat.zero_le _) (le_mk rfl ?_ ?_ ?_) ?_
  · exact Nat.le_refl _
  iterate 2 (case _ => simp (disch := omega) only [wP, wZ, undef, seval, if_pos, if_neg, aStore, frz, AV.flat, ↓reduceIte, ne_eq, reduceCtorEq, ByteArray.size, nl0_zero])
  · rintro ⟨k, g, c⟩ hk -
    simp only at hk
    have hlk : (l.reverse.take k).length = k := by simp; omega
    have hrl : l.reverse.length = l.length := List.length_reverse
    repeat (first | refine wA ?_ | refine wB ?_ | refine wC rfl ?_ | refine wD rfl ?_ | refine wE ?_ | refine wF (by omega) ?_ | ((first | refine wG ?_ | refine wH ?_ | refine wI ?_ | refine wJ ?_ | refine wK ?_ | refine wL ?_); simp (disch := omega) only [wP, wZ, undef, seval, if_pos, if_neg, aStore, frz, AV.flat, ↓reduceIte, ne_eq, reduceCtorEq, ByteArray.size]))
    refine SWp.cond rfl (fun h => ?_) (fun h => ?_)
    · simp only [decide_eq_true_eq] at h
      have hk8 : k < l.length := by omega
      have hj : (l.length : Int) - 1 - (k : Int) = ((l.length - 1 - k : Nat) : Int) := by omega
      have hs := take_snoc l.reverse k (by omega)
      have hg : l.reverse.getD k 0 = l.getD (l.length - 1 - k) 0 := by
        simp only [List.getD]
        rw [List.getElem?_reverse hk8]
      repeat (first | refine wA ?_ | refine wB ?_ | refine wC rfl ?_ | refine wD rfl ?_ | refine wE ?_ | refine wF (by omega) ?_ | ((first | refine wG ?_ | refine wH ?_ | refine wI ?_ | refine wJ ?_ | refine wK ?_ | refine wL ?_); simp (disch := omega) only [wP, wZ, undef, seval, if_pos, if_neg, aStore, frz, AV.flat, ↓reduceIte, ne_eq, reduceCtorEq, ByteArray.size, hlk, hj]))
      refine At.of (k + 1, c, c + 1) (by simp only; omega) (by simp only; omega) rfl rfl (Nat.le_refl _) ?_ ?_
      · simp (disch := omega) only [wP, wZ, undef, seval, if_pos, if_neg, aStore, frz, AV.flat, ↓reduceIte, ne_eq, reduceCtorEq, ByteArray.size]
        omega
      · simp (disch := omega) only [wP, wZ, undef, seval, if_pos, if_neg, aStore, frz, AV.flat, ↓reduceIte, ne_eq, reduceCtorEq, ByteArray.size, hs, hg, nl0_succ]
    · simp only [decide_eq_false_iff_not] at h
      obtain rfl : k = l.length := by omega
      repeat (first | refine wA ?_ | refine wB ?_ | refine wC rfl ?_ | refine wD rfl ?_ | refine wE ?_ | refine wF (by omega) ?_ | ((first | refine wG ?_ | refine wH ?_ | refine wI ?_ | refine wJ ?_ | refine wK ?_ | refine wL ?_); simp (disch := omega) only [wP, wZ, undef, seval, if_pos, if_neg, aStore, frz, AV.flat, ↓reduceIte, ne_eq, reduceCtorEq, ByteArray.size, hlk, hrl, List.take_of_length_le]))
end Go.Proofs.YtbmppmdklappiaaDoor.Aw
namespace Go.Proofs.YtbmppmdklappiaaDoor.Aw
open Go
set_option linter.unusedSimpArgs false
set_option linter.unusedVariables false
theorem leB_two {n : Nat} : leB n 2 = [UInt8.ofNat (n % 256), UInt8.ofNat (n / 256)] := by
  have e : UInt8.ofNat n = UInt8.ofNat (n % 256) := by
    refine UInt8.toNat_inj.1 ?_
    rw [UInt8.toNat_ofNat', UInt8.toNat_ofNat']
    omega
  simp only [leB, List.range_succ, List.range_zero, List.nil_append, List.cons_append, List.map_cons, List.map_nil, Nat.mul_zero, Nat.pow_zero, Nat.div_one, Nat.mul_one, e]
theorem beR_two {n : Nat} : beR n 2 = .sl false none ((leB n 2).reverse.map u8) := if_neg (by omega)
theorem blkS_le {u : Nat} {b : List UInt8} {n : Nat} (h : b.length = n) : blkS u b = UInt8.ofNat u :: (leB n 2 ++ (leB (65535 - n) 2 ++ b)) := by
  rw [leB_two, leB_two, blkS, h]; rfl
set_option maxHeartbeats 1000000 in
set_option maxRecDepth 100000 in
theorem ref_Stored_c [Tabs Tryd.prog] (nl : Bool) (b : List UInt8) (hb : b.length ≤ 170000) : Con Tryd.prog n_drayageref05_Stored [.sl nl none (b.map u8)] (.sl false none ((stL b).map u8)) := by
  refine Con.of' mix Tryd.func10 rfl Tryd.ntmps10 e_drayageref05_Stored r_drayageref05_Stored (by simp) (by simp only [AV.free, AV.free.freeL, free_u8, Bool.and_self]) (by simp only [AV.free, free_u8]) ?_
  unfold s_drayageref05_Stored
  obtain ⟨n, hn⟩ : ∃ n, n = b.length := ⟨_, rfl⟩
  obtain ⟨Q, hQ⟩ : ∃ Q, Q = (n - 1) / 65535 := ⟨_, rfl⟩
  have hstL : stL b = stK b Q ++ blkS 1 (b.drop (65535 * Q)) := by rw [stL, ← hn, ← hQ]
  iterate 5 (first | refine wA ?_ | refine wB ?_ | refine wC rfl ?_ | refine wD rfl ?_ | refine wE ?_ | refine wF (by omega) ?_ | ((first | refine wG ?_ | refine wH ?_ | refine wI ?_ | refine wJ ?_ | refine wK ?_ | refine wL ?_); simp (disch := omega) only [wP, wZ, undef, seval, if_pos, if_neg, aStore, frz, AV.flat, ↓reduceIte, ne_eq, reduceCtorEq, ByteArray.size]))
  refine SWp.adopt 3 none (by simp (disch := omega) only [wP, wZ, undef, seval, if_pos, if_neg, aStore, frz, AV.flat, ↓reduceIte, ne_eq, reduceCtorEq, ByteArray.size]) ?_
  refine SWp.loop (α := Nat × Nat × Nat) (fun x => mk 38 x.2.2 [(0, .sl nl none ((b.drop (65535 * x.1)).map u8)), (3, .own 3 x.2.1 none 0 (65540 * x.1))] [(3, x.2.1, .row (nl0 (65540 * x.1)) ((stK b x.1).map u8))])
    (fun x => x.1 ≤ Q) (fun x => Q - x.1) (0, 0, 1) (Nat.zero_le _) (le_mk rfl ?_ ?_ ?_) ?_
  · exact Nat.le_refl _
  iterate 2 (case _ => simp (disch := omega) only [wP, wZ, undef, seval, if_pos, if_neg, aStore, frz, AV.flat, ↓reduceIte, ne_eq, reduceCtorEq, ByteArray.size, stK, nl0_zero])
  rintro ⟨k, g, gc⟩ hk -
  simp only at hk
  obtain ⟨r, hr⟩ : ∃ r, r = b.drop (65535 * k) := ⟨_, rfl⟩
  have hrl : r.length = n - 65535 * k := by rw [hr, List.length_drop, hn]
  have hkl : (stK b k).length = 65540 * k := length_stK (by omega)
  obtain ⟨X, hX⟩ : ∃ X, X = stK b k := ⟨_, rfl⟩
  obtain ⟨m, hm⟩ : ∃ m, m = 65540 * k := ⟨_, rfl⟩
  rw [← hX, ← hm] at hkl
  simp only [← hr, ← hX, ← hm]
  have go : ∀ (z : Nat), z ≤ 65535 → Con Tryd.prog n_drayageref01_Be [.sc (.int .u64 (z : Int)), .sc (.int .i64 2)] (.sl false none ((leB z 2).reverse.map u8)) ∧ Con Tryd.prog n_drayageref01_Turned [.sl false none ((leB z 2).reverse.map u8)] (.sl false none ((leB z 2).map u8)) := fun z hz => by
    have h1 := ref_Be_c z (by omega) 2 (by omega) (by omega)
    rw [beR_two] at h1
    have h2 := ref_Turned_c false (leB z 2).reverse (by rw [List.length_reverse, length_leB]; omega)
    rw [List.reverse_reverse, List.length_reverse, length_leB] at h2
    exact ⟨h1, h2⟩
  have isE : ∀ z, ((leB z 2).map u8).isEmpty = false := fun z => by rw [leB_two]; rfl
  have lle : ∀ z, (leB z 2).length = 2 := fun z => length_leB
  by_cases ck : 65535 < r.length
  · have dk : decide ((65535 : Int) < (r.length : Int)) = true := decide_eq_true (by omega)
    obtain ⟨be1, tu1⟩ := go 65535 (by omega)
    obtain ⟨be2, tu2⟩ := go 0 (by omega)
    obtain ⟨X1, hX1⟩ : ∃ Y, Y = X ++ [0] := ⟨_, rfl⟩
    obtain ⟨l1, hl1⟩ : ∃ l, l = leB 65535 2 := ⟨_, rfl⟩
    obtain ⟨l2, hl2⟩ : ∃ l, l = leB 0 2 := ⟨_, rfl⟩
    obtain ⟨r1, hr1⟩ : ∃ l, l = r.take 65535 := ⟨_, rfl⟩
    obtain ⟨X2, hX2⟩ : ∃ Y, Y = X1 ++ l1 := ⟨_, rfl⟩
    obtain ⟨X3, hX3⟩ : ∃ Y, Y = X2 ++ l2 := ⟨_, rfl⟩
    obtain ⟨X4, hX4⟩ : ∃ Y, Y = X3 ++ r1 := ⟨_, rfl⟩
    have e1 : X.map u8 ++ [AV.sc (.int .u8 0)] = X1.map u8 := by rw [hX1]; simp [u8]
    have e2 : X1.map u8 ++ l1.map u8 = X2.map u8 := by rw [hX2, List.map_append]
    have e3 : X2.map u8 ++ l2.map u8 = X3.map u8 := by rw [hX3, List.map_append]
    have e4 : X3.map u8 ++ r1.map u8 = X4.map u8 := by rw [hX4, List.map_append]
    have ht : (r.map u8).take 65535 = r1.map u8 := by rw [hr1, List.map_take]
    have hr1l : r1.length = 65535 := by rw [hr1, List.length_take]; omega
    have hd : r.drop 65535 = b.drop (65535 * (k + 1)) := by rw [hr, List.drop_drop]; congr 1
    have hm1 : 65540 * (k + 1) = m + 1 + 2 + 2 + 65535 := by omega
    have hnl : nl0 (m + 1 + 2 + 2 + 65535) = false := nl0_pos (by omega)
    have hfin : X4 = stK b (k + 1) := by
      rw [stK, ← hX, ← hr, blkS_le (n := 65535) (by rw [List.length_take]; omega), hX4, hX3, hX2, hX1, hl1, hl2, hr1]
      simp
    have isE1 : (l1.map u8).isEmpty = false := by rw [hl1]; exact isE _
    have isE2 : (l2.map u8).isEmpty = false := by rw [hl2]; exact isE _
    have ll1 : l1.length = 2 := by rw [hl1]; exact lle _
    have ll2 : l2.length = 2 := by rw [hl2]; exact lle _
    have lX1 : X1.length = m + 1 := by rw [hX1, List.length_append, hkl]; rfl
    have lX2 : X2.length = m + 1 + 2 := by rw [hX2, List.length_append, lX1, ll1]
    have lX3 : X3.length = m + 1 + 2 + 2 := by rw [hX3, List.length_append, lX2, ll2]
    rw [← hl1] at be1 tu1
    rw [← hl2] at be2 tu2
    clear hl1 hl2 hr1
    have w1 : IntKind.u64.wrap 65535 = 65535 := rfl
    have w2 : IntKind.u64.wrap 0 = 0 := rfl
    repeat (first | refine wA ?_ | refine wB ?_ | refine wC rfl ?_ | refine wD rfl ?_ | refine wE ?_ | refine wF (by omega) ?_ | ((first | refine wG ?_ | refine wH ?_ | refine wI ?_ | refine wJ ?_ | refine wK ?_ | refine wL ?_); simp (disch := omega) only [wP, wZ, undef, seval, if_pos, if_neg, aStore, frz, AV.flat, ↓reduceIte, ne_eq, reduceCtorEq, ByteArray.size, List.length_map, dk, e1, w1]))
    refine goC_p _ (.inl ⟨rfl, be1⟩) ?_
    repeat (first | refine wA ?_ | refine wB ?_ | refine wC rfl ?_ | refine wD rfl ?_ | refine wE ?_ | refine wF (by omega) ?_ | ((first | refine wG ?_ | refine wH ?_ | refine wI ?_ | refine wJ ?_ | refine wK ?_ | refine wL ?_); simp (disch := omega) only [wP, wZ, undef, seval, if_pos, if_neg, aStore, frz, AV.flat, ↓reduceIte, ne_eq, reduceCtorEq, ByteArray.size]))
    refine goC_p _ (.inl ⟨by simp only [AV.free, AV.free.freeL, free_u8, Bool.and_self], tu1⟩) ?_
    repeat (first | refine wA ?_ | refine wB ?_ | refine wC rfl ?_ | refine wD rfl ?_ | refine wE ?_ | refine wF (by omega) ?_ | ((first | refine wG ?_ | refine wH ?_ | refine wI ?_ | refine wJ ?_ | refine wK ?_ | refine wL ?_); simp (disch := omega) only [wP, wZ, undef, seval, if_pos, if_neg, aStore, frz, AV.flat, ↓reduceIte, ne_eq, reduceCtorEq, ByteArray.size, List.length_map, e2, ll1, isE1, w2, lX1]))
    refine goC_p _ (.inl ⟨rfl, be2⟩) ?_
    repeat (first | refine wA ?_ | refine wB ?_ | refine wC rfl ?_ | refine wD rfl ?_ | refine wE ?_ | refine wF (by omega) ?_ | ((first | refine wG ?_ | refine wH ?_ | refine wI ?_ | refine wJ ?_ | refine wK ?_ | refine wL ?_); simp (disch := omega) only [wP, wZ, undef, seval, if_pos, if_neg, aStore, frz, AV.flat, ↓reduceIte, ne_eq, reduceCtorEq, ByteArray.size]))
    refine goC_p _ (.inl ⟨by simp only [AV.free, AV.free.freeL, free_u8, Bool.and_self], tu2⟩) ?_
    repeat (first | refine wA ?_ | refine wB ?_ | refine wC rfl ?_ | refine wD rfl ?_ | refine wE ?_ | refine wF (by omega) ?_ | ((first | refine wG ?_ | refine wH ?_ | refine wI ?_ | refine wJ ?_ | refine wK ?_ | refine wL ?_); simp (disch := omega) only [wP, wZ, undef, seval, if_pos, if_neg, aStore, frz, AV.flat, ↓reduceIte, ne_eq, reduceCtorEq, ByteArray.size, List.length_map, e3, ll2, isE2, ht, e4, hr1l, lX2, lX3]))
    refine At.of (k + 1, gc + 3, gc + 4) (by simp only; omega) (by simp only; omega) rfl rfl (Nat.le_refl _) ?_ ?_
    iterate 2 (case _ => simp (disch := omega) only [wP, wZ, undef, seval, if_pos, if_neg, aStore, frz, AV.flat, ↓reduceIte, ne_eq, reduceCtorEq, ByteArray.size, hd, hm1, ← hfin, hnl])
  · have dk : decide ((65535 : Int) < (r.length : Int)) = false := decide_eq_false (by omega)
    obtain rfl : k = Q := by omega
    obtain ⟨n1, hn1⟩ : ∃ z, z = r.length := ⟨_, rfl⟩
    obtain ⟨n2, hn2⟩ : ∃ z, z = 65535 - n1 := ⟨_, rfl⟩
    have en : (65535 : Int) - (n1 : Int) = (n2 : Int) := by omega
    obtain ⟨be1, tu1⟩ := go n1 (by omega)
    obtain ⟨be2, tu2⟩ := go n2 (by omega)
    obtain ⟨X1, hX1⟩ : ∃ Y, Y = X ++ [1] := ⟨_, rfl⟩
    obtain ⟨l1, hl1⟩ : ∃ l, l = leB n1 2 := ⟨_, rfl⟩
    obtain ⟨l2, hl2⟩ : ∃ l, l = leB n2 2 := ⟨_, rfl⟩
    obtain ⟨X2, hX2⟩ : ∃ Y, Y = X1 ++ l1 := ⟨_, rfl⟩
    obtain ⟨X3, hX3⟩ : ∃ Y, Y = X2 ++ l2 := ⟨_, rfl⟩
    obtain ⟨X4, hX4⟩ : ∃ Y, Y = X3 ++ r := ⟨_, rfl⟩
    have e1 : X.map u8 ++ [AV.sc (.int .u8 1)] = X1.map u8 := by rw [hX1]; simp [u8]
    have e2 : X1.map u8 ++ l1.map u8 = X2.map u8 := by rw [hX2, List.map_append]
    have e3 : X2.map u8 ++ l2.map u8 = X3.map u8 := by rw [hX3, List.map_append]
    have e4 : X3.map u8 ++ r.map u8 = X4.map u8 := by rw [hX4, List.map_append]
    have ht : (r.map u8).take n1 = r.map u8 := List.take_of_length_le (by rw [List.length_map, hn1]; exact Nat.le_refl _)
    have hfin : stL b = X4 := by
      rw [hstL, ← hX, ← hr, blkS_le (n := n1) hn1.symm, ← hn2, hX4, hX3, hX2, hX1, hl1, hl2]
      simp
    have isE1 : (l1.map u8).isEmpty = false := by rw [hl1]; exact isE _
    have isE2 : (l2.map u8).isEmpty = false := by rw [hl2]; exact isE _
    have ll1 : l1.length = 2 := by rw [hl1]; exact lle _
    have ll2 : l2.length = 2 := by rw [hl2]; exact lle _
    have hX4l : X4.length = m + 1 + 2 + 2 + n1 := by rw [hX4, hX3, hX2, hX1]; simp only [List.length_append, List.length_singleton, ll1, ll2, ← hn1]; omega
    have htk : (X4.map u8).take (m + 1 + 2 + 2 + n1) = X4.map u8 := List.take_of_length_le (by rw [List.length_map, hX4l]; exact Nat.le_refl _)
    have lX1 : X1.length = m + 1 := by rw [hX1, List.length_append, hkl]; rfl
    have lX2 : X2.length = m + 1 + 2 := by rw [hX2, List.length_append, lX1, ll1]
    have lX3 : X3.length = m + 1 + 2 + 2 := by rw [hX3, List.length_append, lX2, ll2]
    rw [← hl1] at be1 tu1
    rw [← hl2] at be2 tu2
    rw [hfin]
    rw [← hn1] at dk
    clear hl1 hl2 hfin
    have w1 : IntKind.u64.wrap (n1 : Int) = (n1 : Int) := wrap_u64_id (by omega) (by omega)
    have w2 : IntKind.u64.wrap (n2 : Int) = (n2 : Int) := wrap_u64_id (by omega) (by omega)
    repeat (first | refine wA ?_ | refine wB ?_ | refine wC rfl ?_ | refine wD rfl ?_ | refine wE ?_ | refine wF (by omega) ?_ | ((first | refine wG ?_ | refine wH ?_ | refine wI ?_ | refine wJ ?_ | refine wK ?_ | refine wL ?_); simp (disch := omega) only [wP, wZ, undef, seval, if_pos, if_neg, aStore, frz, AV.flat, ↓reduceIte, ne_eq, reduceCtorEq, ByteArray.size, List.length_map, ← hn1, dk, e1, w1]))
    refine goC_p _ (.inl ⟨rfl, be1⟩) ?_
    repeat (first | refine wA ?_ | refine wB ?_ | refine wC rfl ?_ | refine wD rfl ?_ | refine wE ?_ | refine wF (by omega) ?_ | ((first | refine wG ?_ | refine wH ?_ | refine wI ?_ | refine wJ ?_ | refine wK ?_ | refine wL ?_); simp (disch := omega) only [wP, wZ, undef, seval, if_pos, if_neg, aStore, frz, AV.flat, ↓reduceIte, ne_eq, reduceCtorEq, ByteArray.size]))
    refine goC_p _ (.inl ⟨by simp only [AV.free, AV.free.freeL, free_u8, Bool.and_self], tu1⟩) ?_
    repeat (first | refine wA ?_ | refine wB ?_ | refine wC rfl ?_ | refine wD rfl ?_ | refine wE ?_ | refine wF (by omega) ?_ | ((first | refine wG ?_ | refine wH ?_ | refine wI ?_ | refine wJ ?_ | refine wK ?_ | refine wL ?_); simp (disch := omega) only [wP, wZ, undef, seval, if_pos, if_neg, aStore, frz, AV.flat, ↓reduceIte, ne_eq, reduceCtorEq, ByteArray.size, List.length_map, ← hn1, e2, ll1, isE1, en, w2, lX1]))
    refine goC_p _ (.inl ⟨rfl, be2⟩) ?_
    repeat (first | refine wA ?_ | refine wB ?_ | refine wC rfl ?_ | refine wD rfl ?_ | refine wE ?_ | refine wF (by omega) ?_ | ((first | refine wG ?_ | refine wH ?_ | refine wI ?_ | refine wJ ?_ | refine wK ?_ | refine wL ?_); simp (disch := omega) only [wP, wZ, undef, seval, if_pos, if_neg, aStore, frz, AV.flat, ↓reduceIte, ne_eq, reduceCtorEq, ByteArray.size]))
    refine goC_p _ (.inl ⟨by simp only [AV.free, AV.free.freeL, free_u8, Bool.and_self], tu2⟩) ?_
    repeat (first | refine wA ?_ | refine wB ?_ | refine wC rfl ?_ | refine wD rfl ?_ | refine wE ?_ | refine wF (by omega) ?_ | ((first | refine wG ?_ | refine wH ?_ | refine wI ?_ | refine wJ ?_ | refine wK ?_ | refine wL ?_); simp (disch := omega) only [wP, wZ, undef, seval, if_pos, if_neg, aStore, frz, AV.flat, ↓reduceIte, ne_eq, reduceCtorEq, ByteArray.size, List.length_map, ← hn1, e3, ll2, isE2, ht, e4, hX4l, htk, lX2, lX3]))
end Go.Proofs.YtbmppmdklappiaaDoor.Aw
namespace Go.Proofs.YtbmppmdklappiaaDoor.Aw
open Go
set_option linter.unusedSimpArgs false
set_option linter.unusedVariables false
theorem bytesB_nil : bytesB [] = [] := rfl
theorem length_stL {b : List UInt8} : (stL b).length = b.length + 5 * ((b.length - 1) / 65535 + 1) := by
  rw [stL, List.length_append, length_stK (by omega), length_blkS, List.length_drop]; omega
set_option maxHeartbeats 1000000 in
set_option maxRecDepth 100000 in
theorem Deflate_0 [Tabs Tryd.prog] (nl : Bool) (b : List UInt8) (hb : b.length ≤ 170000) : Con Tryd.prog n_deflate_Deflate [.sl nl none (b.map u8), .sc (.int .i64 0)] (.tup [.sl false none ((stL b).map u8), .sc (.int .i64 0)]) := by
  refine Con.of' mix Tryd.func9 rfl Tryd.ntmps9 e_deflate_Deflate r_deflate_Deflate (by simp) (by simp only [AV.free, AV.free.freeL, free_u8, Bool.and_self]) (by simp only [AV.free, AV.free.freeL, free_u8, Bool.and_self]) ?_
  unfold s_deflate_Deflate
  obtain ⟨n, hn⟩ : ∃ n, n = (stL b).length := ⟨_, rfl⟩
  have hnl := length_stL (b := b)
  have hn0 : nl0 n = false := nl0_pos (by omega)
  have ps := packer_stored_h nl b hb n hn
  have pb := huff_WBytes_h n (8 * n) (stL b) hn.symm (by omega)
  have nw := huff_NewWriter_h
  have d : decide ((16777216 : Int) < (b.length : Int)) = false := decide_eq_false (by omega)
  obtain ⟨B, hB⟩ : ∃ B, B = stL b := ⟨_, rfl⟩
  rw [← hB] at ps pb ⊢
  rw [hn0] at ps pb
  repeat (first | refine wA ?_ | refine wB ?_ | refine wC rfl ?_ | refine wD rfl ?_ | refine wE ?_ | refine wF (by omega) ?_ | ((first | refine wG ?_ | refine wH ?_ | refine wI ?_ | refine wJ ?_ | refine wK ?_ | refine wL ?_); simp (disch := omega) only [wP, wZ, undef, seval, if_pos, if_neg, aStore, frz, AV.flat, ↓reduceIte, ne_eq, reduceCtorEq, ByteArray.size, d, List.length_map]))
  refine goC_h [] 2000 nw (by simp) (by simp) ?_ ?_ ?_
  iterate 2 (case _ => simp (disch := omega) only [wP, wZ, undef, seval, if_pos, if_neg, aStore, frz, AV.flat, ↓reduceIte, ne_eq, reduceCtorEq, ByteArray.size])
  repeat (first | refine wA ?_ | refine wB ?_ | refine wC rfl ?_ | refine wD rfl ?_ | refine wE ?_ | refine wF (by omega) ?_ | ((first | refine wG ?_ | refine wH ?_ | refine wI ?_ | refine wJ ?_ | refine wK ?_ | refine wL ?_); simp (disch := omega) only [wP, wZ, undef, seval, if_pos, if_neg, aStore, frz, AV.flat, ↓reduceIte, ne_eq, reduceCtorEq, ByteArray.size, iR]))
  refine goC_h [(2002, 1), (2100, 2)] 3000 ps (by simp) (by simp) ?_ ?_ ?_
  iterate 2 (case _ => simp (disch := omega) only [wP, wZ, undef, seval, if_pos, if_neg, aStore, frz, AV.flat, ↓reduceIte, ne_eq, reduceCtorEq, ByteArray.size, wrR, iR])
  repeat (first | refine wA ?_ | refine wB ?_ | refine wC rfl ?_ | refine wD rfl ?_ | refine wE ?_ | refine wF (by omega) ?_ | ((first | refine wG ?_ | refine wH ?_ | refine wI ?_ | refine wJ ?_ | refine wK ?_ | refine wL ?_); simp (disch := omega) only [wP, wZ, undef, seval, if_pos, if_neg, aStore, frz, AV.flat, ↓reduceIte, ne_eq, reduceCtorEq, ByteArray.size, wrR, iR]))
  refine goC_h [(2002, 1), (2100, 2255)] 4000 pb (by simp) (by simp) ?_ ?_ ?_
  iterate 2 (case _ => simp (disch := omega) only [wP, wZ, undef, seval, if_pos, if_neg, aStore, frz, AV.flat, ↓reduceIte, ne_eq, reduceCtorEq, ByteArray.size, wrR, iR])
  repeat (first | refine wA ?_ | refine wB ?_ | refine wC rfl ?_ | refine wD rfl ?_ | refine wE ?_ | refine wF (by omega) ?_ | ((first | refine wG ?_ | refine wH ?_ | refine wI ?_ | refine wJ ?_ | refine wK ?_ | refine wL ?_); simp (disch := omega) only [wP, wZ, undef, seval, if_pos, if_neg, aStore, frz, AV.flat, ↓reduceIte, ne_eq, reduceCtorEq, ByteArray.size, wrR, iR]))
theorem fixB_len {P : List (Nat × Nat)} (h : P.length ≤ 20000) (hok : ∀ p ∈ P, pcOk p) : 3 ≤ (fixB P).length ∧ (fixB P).length ≤ 2000000 := by
  rw [fixB, pcsB]
  simp only [List.length_append, length_digB]
  have h1 := flat_len fxL_ok fxD_ok fx_len.1 fx_len.2 hok
  have h2 := symB_len fxL_ok (end_ok fx_len.1)
  omega
theorem dynB_len {P : List (Nat × Nat)} (h : P.length ≤ 20000) (hok : ∀ p ∈ P, pcOk p) : 3 ≤ (dynB P).length ∧ (dynB P).length ≤ 2000000 := by
  obtain ⟨ol, od, l1, d1⟩ := bs_facts h
  have t1 := (tell_facts ol od l1 d1).1
  rw [dynB, pcsB]
  simp only [List.length_append, length_digB]
  have h1 := flat_len ol od (by omega) (by omega) hok
  have h2 := symB_len ol (end_ok (by omega))
  omega
def out1 (b : List UInt8) : List UInt8 := bytesB (fixB (pcsM b))
theorem length_out1 {b : List UInt8} : (out1 b).length = ((fixB (pcsM b)).length + 7) / 8 := length_bytesB
set_option maxHeartbeats 1000000 in
set_option maxRecDepth 100000 in
theorem Deflate_1 [Tabs Tryd.prog] (nl : Bool) (b : List UInt8) (hb : b.length ≤ 20000) : Con Tryd.prog n_deflate_Deflate [.sl nl none (b.map u8), .sc (.int .i64 1)] (.tup [.sl false none ((out1 b).map u8), .sc (.int .i64 0)]) := by
  refine Con.of' mix Tryd.func9 rfl Tryd.ntmps9 e_deflate_Deflate r_deflate_Deflate (by simp) (by simp only [AV.free, AV.free.freeL, free_u8, Bool.and_self]) (by simp only [AV.free, AV.free.freeL, free_u8, Bool.and_self]) ?_
  unfold s_deflate_Deflate
  obtain ⟨j, hj⟩ : ∃ j, j = (fixB (pcsM b)).length := ⟨_, rfl⟩
  have hj3 := fixB_len (pcsM_len hb) (pcsM_ok hb)
  rw [← hj] at hj3
  have hn0 : nl0 ((j + 7) / 8) = false := nl0_pos (by omega)
  have hol := length_out1 (b := b)
  rw [← hj] at hol
  have pc := piecesOf_c nl b hb
  have ps := packer_fixed_h [] (by simp) (by simp) (nl0 (pcsM b).length) (pcsM b) (pcsM_len hb) (pcsM_ok hb) 0 0 rfl rfl j hj
  rw [List.nil_append, bytesB_nil, ← out1] at ps
  obtain ⟨q, hq⟩ : ∃ q, 126 + (KE + 1) = q + 1 := ⟨126 + KE, by omega⟩
  have hq2 : 126 + (KE + 2) = q + 2 := by omega
  rw [hq, hq2] at ps
  have pb := huff_WBytes_h ((j + 7) / 8) j (out1 b) hol (by omega)
  have nw := huff_NewWriter_h
  have d : decide ((16777216 : Int) < (b.length : Int)) = false := decide_eq_false (by omega)
  obtain ⟨B, hB⟩ : ∃ B, B = out1 b := ⟨_, rfl⟩
  rw [← hB] at ps pb ⊢
  rw [hn0] at ps pb
  obtain ⟨P, hP⟩ : ∃ P, P = (pcsM b).map pcA := ⟨_, rfl⟩
  have hrP : ∀ ρ, ren.renL ρ P = P := fun ρ => by rw [hP]; exact renL_free ρ _ free_pcs
  rw [← hP] at pc ps
  repeat (first | refine wA ?_ | refine wB ?_ | refine wC rfl ?_ | refine wD rfl ?_ | refine wE ?_ | refine wF (by omega) ?_ | ((first | refine wG ?_ | refine wH ?_ | refine wI ?_ | refine wJ ?_ | refine wK ?_ | refine wL ?_); simp (disch := omega) only [wP, wZ, undef, seval, if_pos, if_neg, aStore, frz, AV.flat, ↓reduceIte, ne_eq, reduceCtorEq, ByteArray.size, d, List.length_map]))
  refine goC_h [] 2000 nw (by simp) (by simp) ?_ ?_ ?_
  iterate 2 (case _ => simp (disch := omega) only [wP, wZ, undef, seval, if_pos, if_neg, aStore, frz, AV.flat, ↓reduceIte, ne_eq, reduceCtorEq, ByteArray.size])
  repeat (first | refine wA ?_ | refine wB ?_ | refine wC rfl ?_ | refine wD rfl ?_ | refine wE ?_ | refine wF (by omega) ?_ | ((first | refine wG ?_ | refine wH ?_ | refine wI ?_ | refine wJ ?_ | refine wK ?_ | refine wL ?_); simp (disch := omega) only [wP, wZ, undef, seval, if_pos, if_neg, aStore, frz, AV.flat, ↓reduceIte, ne_eq, reduceCtorEq, ByteArray.size, iR]))
  refine goC_p _ (.inl ⟨by simp only [AV.free, AV.free.freeL, free_u8, Bool.and_self], pc⟩) ?_
  repeat (first | refine wA ?_ | refine wB ?_ | refine wC rfl ?_ | refine wD rfl ?_ | refine wE ?_ | refine wF (by omega) ?_ | ((first | refine wG ?_ | refine wH ?_ | refine wI ?_ | refine wJ ?_ | refine wK ?_ | refine wL ?_); simp (disch := omega) only [wP, wZ, undef, seval, if_pos, if_neg, aStore, frz, AV.flat, ↓reduceIte, ne_eq, reduceCtorEq, ByteArray.size, iR]))
  refine goC_h [(2002, 1), (2100, 2)] 3000 ps (by simp) (by simp) ?_ ?_ ?_
  iterate 2 (case _ => simp (disch := omega) only [wP, wZ, undef, seval, if_pos, if_neg, aStore, frz, AV.flat, ↓reduceIte, ne_eq, reduceCtorEq, ByteArray.size, wrR, iR, hrP, nl00])
  repeat (first | refine wA ?_ | refine wB ?_ | refine wC rfl ?_ | refine wD rfl ?_ | refine wE ?_ | refine wF (by omega) ?_ | ((first | refine wG ?_ | refine wH ?_ | refine wI ?_ | refine wJ ?_ | refine wK ?_ | refine wL ?_); simp (disch := omega) only [wP, wZ, undef, seval, if_pos, if_neg, aStore, frz, AV.flat, ↓reduceIte, ne_eq, reduceCtorEq, ByteArray.size, wrR, iR]))
  refine goC_h [(2002, 1), (2100, 4 + (q + 1))] 4000 pb (by simp) (by simp) ?_ ?_ ?_
  iterate 2 (case _ => simp (disch := omega) only [wP, wZ, undef, seval, if_pos, if_neg, aStore, frz, AV.flat, ↓reduceIte, ne_eq, reduceCtorEq, ByteArray.size, wrR, iR])
  repeat (first | refine wA ?_ | refine wB ?_ | refine wC rfl ?_ | refine wD rfl ?_ | refine wE ?_ | refine wF (by omega) ?_ | ((first | refine wG ?_ | refine wH ?_ | refine wI ?_ | refine wJ ?_ | refine wK ?_ | refine wL ?_); simp (disch := omega) only [wP, wZ, undef, seval, if_pos, if_neg, aStore, frz, AV.flat, ↓reduceIte, ne_eq, reduceCtorEq, ByteArray.size, wrR, iR]))
def out2 (b : List UInt8) : List UInt8 := bytesB (dynB (pcsM b))
theorem length_out2 {b : List UInt8} : (out2 b).length = ((dynB (pcsM b)).length + 7) / 8 := length_bytesB
set_option maxHeartbeats 1000000 in
set_option maxRecDepth 100000 in
theorem Deflate_2 [Tabs Tryd.prog] (ht : Tabs.tab Tryd.prog 0 = some (tlO.map nA)) (nl : Bool) (b : List UInt8) (hb : b.length ≤ 20000) : Con Tryd.prog n_deflate_Deflate [.sl nl none (b.map u8), .sc (.int .i64 2)] (.tup [.sl false none ((out2 b).map u8), .sc (.int .i64 0)]) := by
  refine Con.of' mix Tryd.func9 rfl Tryd.ntmps9 e_deflate_Deflate r_deflate_Deflate (by simp) (by simp only [AV.free, AV.free.freeL, free_u8, Bool.and_self]) (by simp only [AV.free, AV.free.freeL, free_u8, Bool.and_self]) ?_
  unfold s_deflate_Deflate
  obtain ⟨j, hj⟩ : ∃ j, j = (dynB (pcsM b)).length := ⟨_, rfl⟩
  have hj3 := dynB_len (pcsM_len hb) (pcsM_ok hb)
  rw [← hj] at hj3
  have hn0 : nl0 ((j + 7) / 8) = false := nl0_pos (by omega)
  have hol := length_out2 (b := b)
  rw [← hj] at hol
  have pc := piecesOf_c nl b hb
  have ps := packer_dynamic_h ht [] (by simp) (by simp) (nl0 (pcsM b).length) (pcsM b) (pcsM_len hb) (pcsM_ok hb) 0 0 rfl rfl j hj
  rw [List.nil_append, bytesB_nil, ← out2] at ps
  obtain ⟨q, hq⟩ : ∃ q, 127 + (KE + 2) + (KE + 1) = q + 1 := ⟨127 + (KE + 2) + KE, by omega⟩
  have hq2 : 127 + (KE + 2) + (KE + 2) = q + 2 := by omega
  rw [hq, hq2] at ps
  have pb := huff_WBytes_h ((j + 7) / 8) j (out2 b) hol (by omega)
  have nw := huff_NewWriter_h
  have d : decide ((16777216 : Int) < (b.length : Int)) = false := decide_eq_false (by omega)
  obtain ⟨B, hB⟩ : ∃ B, B = out2 b := ⟨_, rfl⟩
  rw [← hB] at ps pb ⊢
  rw [hn0] at ps pb
  obtain ⟨P, hP⟩ : ∃ P, P = (pcsM b).map pcA := ⟨_, rfl⟩
  have hrP : ∀ ρ, ren.renL ρ P = P := fun ρ => by rw [hP]; exact renL_free ρ _ free_pcs
  rw [← hP] at pc ps
  repeat (first | refine wA ?_ | refine wB ?_ | refine wC rfl ?_ | refine wD rfl ?_ | refine wE ?_ | refine wF (by omega) ?_ | ((first | refine wG ?_ | refine wH ?_ | refine wI ?_ | refine wJ ?_ | refine wK ?_ | refine wL ?_); simp (disch := omega) only [wP, wZ, undef, seval, if_pos, if_neg, aStore, frz, AV.flat, ↓reduceIte, ne_eq, reduceCtorEq, ByteArray.size, d, List.length_map]))
  refine goC_h [] 2000 nw (by simp) (by simp) ?_ ?_ ?_
  iterate 2 (case _ => simp (disch := omega) only [wP, wZ, undef, seval, if_pos, if_neg, aStore, frz, AV.flat, ↓reduceIte, ne_eq, reduceCtorEq, ByteArray.size])
  repeat (first | refine wA ?_ | refine wB ?_ | refine wC rfl ?_ | refine wD rfl ?_ | refine wE ?_ | refine wF (by omega) ?_ | ((first | refine wG ?_ | refine wH ?_ | refine wI ?_ | refine wJ ?_ | refine wK ?_ | refine wL ?_); simp (disch := omega) only [wP, wZ, undef, seval, if_pos, if_neg, aStore, frz, AV.flat, ↓reduceIte, ne_eq, reduceCtorEq, ByteArray.size, iR]))
  refine goC_p _ (.inl ⟨by simp only [AV.free, AV.free.freeL, free_u8, Bool.and_self], pc⟩) ?_
  repeat (first | refine wA ?_ | refine wB ?_ | refine wC rfl ?_ | refine wD rfl ?_ | refine wE ?_ | refine wF (by omega) ?_ | ((first | refine wG ?_ | refine wH ?_ | refine wI ?_ | refine wJ ?_ | refine wK ?_ | refine wL ?_); simp (disch := omega) only [wP, wZ, undef, seval, if_pos, if_neg, aStore, frz, AV.flat, ↓reduceIte, ne_eq, reduceCtorEq, ByteArray.size, iR]))
  refine goC_h [(2002, 1), (2100, 2)] 3000 ps (by simp) (by simp) ?_ ?_ ?_
  iterate 2 (case _ => simp (disch := omega) only [wP, wZ, undef, seval, if_pos, if_neg, aStore, frz, AV.flat, ↓reduceIte, ne_eq, reduceCtorEq, ByteArray.size, wrR, iR, hrP, nl00])
  repeat (first | refine wA ?_ | refine wB ?_ | refine wC rfl ?_ | refine wD rfl ?_ | refine wE ?_ | refine wF (by omega) ?_ | ((first | refine wG ?_ | refine wH ?_ | refine wI ?_ | refine wJ ?_ | refine wK ?_ | refine wL ?_); simp (disch := omega) only [wP, wZ, undef, seval, if_pos, if_neg, aStore, frz, AV.flat, ↓reduceIte, ne_eq, reduceCtorEq, ByteArray.size, wrR, iR]))
  refine goC_h [(2002, 1), (2100, 4 + (q + 1))] 4000 pb (by simp) (by simp) ?_ ?_ ?_
  iterate 2 (case _ => simp (disch := omega) only [wP, wZ, undef, seval, if_pos, if_neg, aStore, frz, AV.flat, ↓reduceIte, ne_eq, reduceCtorEq, ByteArray.size, wrR, iR])
  repeat (first | refine wA ?_ | refine wB ?_ | refine wC rfl ?_ | refine wD rfl ?_ | refine wE ?_ | refine wF (by omega) ?_ | ((first | refine wG ?_ | refine wH ?_ | refine wI ?_ | refine wJ ?_ | refine wK ?_ | refine wL ?_); simp (disch := omega) only [wP, wZ, undef, seval, if_pos, if_neg, aStore, frz, AV.flat, ↓reduceIte, ne_eq, reduceCtorEq, ByteArray.size, wrR, iR]))
end Go.Proofs.YtbmppmdklappiaaDoor.Aw
namespace Go.Proofs.YtbmppmdklappiaaDoor.Aw
open Go
set_option linter.unusedSimpArgs false
set_option linter.unusedVariables false
theorem Rd_nil {G : Gh} {w : World} {es : Option Nat} {x : Value} (h : Rd G w (.sc (.slice none 0 0)) x) : Rd G w (.sl true es []) x := by
  simp only [Rd] at h ⊢
  subst h
  exact ⟨none, 0, 0, [], rfl, rfl, Nat.le_refl _, rfl, by simp, fun _ => rfl, fun a h => by simp at h⟩
theorem Con.nil1 {P : Program} [Tabs P] {f : Nat} {es : Option Nat} {ins : List AV} {out : AV} (h : Con P f (.sl true es [] :: ins) out) : Con P f (.sc (.slice none 0 0) :: ins) out := fun w S vs ht hl hr => h w S vs ht hl (by
  obtain ⟨v, r, e, h1, h2⟩ := hr
  exact ⟨v, r, e, Rd_nil h1, h2⟩)
theorem aw5_a : stL [97] = [1, 1, 0, 254, 255, 97] := by decide +kernel
theorem aw5_b : out1 [] = [3, 0] := by decide +kernel
set_option maxRecDepth 100000 in
theorem law05_awake_c [Tabs Tryd.prog] : Con Tryd.prog n_drayagelaw05_awake [] (boo true) := by
  refine Con.of' mix Tryd.func8 rfl Tryd.ntmps8 e_drayagelaw05_awake r_drayagelaw05_awake (by simp) rfl rfl ?_
  unfold s_drayagelaw05_awake
  have p1 := Deflate_0 false [97] (by simp)
  have p2 := (Deflate_1 true [] (by simp)).nil1
  rw [aw5_a] at p1
  rw [aw5_b] at p2
  have e1 : ([97] : List UInt8).map u8 = [.sc (.int .u8 97)] := rfl
  have e2 : ([1, 1, 0, 254, 255, 97] : List UInt8).map u8 = [.sc (.int .u8 1), .sc (.int .u8 1), .sc (.int .u8 0), .sc (.int .u8 254), .sc (.int .u8 255), .sc (.int .u8 97)] := rfl
  have e3 : ([3, 0] : List UInt8).map u8 = [.sc (.int .u8 3), .sc (.int .u8 0)] := rfl
  rw [e1, e2] at p1
  rw [e3] at p2
  have u1 : unu8 (AV.sc (.int .u8 1)) = 1 := rfl
  have u2 : unu8 (AV.sc (.int .u8 0)) = 0 := rfl
  have u3 : unu8 (AV.sc (.int .u8 254)) = 254 := rfl
  have u4 : unu8 (AV.sc (.int .u8 255)) = 255 := rfl
  have u5 : unu8 (AV.sc (.int .u8 97)) = 97 := rfl
  have u6 : unu8 (AV.sc (.int .u8 3)) = 3 := rfl
  repeat (first | refine wA ?_ | refine wB ?_ | refine wC rfl ?_ | refine wD rfl ?_ | refine wE ?_ | refine wF (by omega) ?_ | ((first | refine wG ?_ | refine wH ?_ | refine wI ?_ | refine wJ ?_ | refine wK ?_ | refine wL ?_); simp (disch := omega) only [wP, wZ, undef, UInt8.reduceToNat, Nat.reduceOr, Nat.reduceAnd, Nat.reduceXor, Nat.reduceDiv, if_pos, if_neg, aStore, frz, AV.flat, ↓reduceIte, ne_eq, reduceCtorEq, Int.reduceToNat, Nat.reduceEqDiff, Nat.reduceAdd, Nat.reduceSub, Nat.reduceMul, Int.reduceAdd, Int.reduceMul, Int.reduceSub, Int.reduceLT, Int.reduceLE, Int.reduceEq, Int.reduceNe, Nat.reduceLeDiff, Nat.reduceLT, Int.reduceNeg, Nat.reducePow, Nat.reduceMod, ByteArray.size]))
  refine goC_p _ (.inl ⟨rfl, p1⟩) ?_
  repeat (first | refine wA ?_ | refine wB ?_ | refine wC rfl ?_ | refine wD rfl ?_ | refine wE ?_ | refine wF (by omega) ?_ | ((first | refine wG ?_ | refine wH ?_ | refine wI ?_ | refine wJ ?_ | refine wK ?_ | refine wL ?_); simp (disch := omega) only [wP, wZ, undef, UInt8.reduceToNat, Nat.reduceOr, Nat.reduceAnd, Nat.reduceXor, Nat.reduceDiv, if_pos, if_neg, aStore, frz, AV.flat, ↓reduceIte, ne_eq, reduceCtorEq, Int.reduceToNat, Nat.reduceEqDiff, Nat.reduceAdd, Nat.reduceSub, Nat.reduceMul, Int.reduceAdd, Int.reduceMul, Int.reduceSub, Int.reduceLT, Int.reduceLE, Int.reduceEq, Int.reduceNe, Nat.reduceLeDiff, Nat.reduceLT, Int.reduceNeg, Nat.reducePow, Nat.reduceMod, ByteArray.size]))
  refine goC_p _ (.inl ⟨rfl, p2⟩) ?_
  repeat (first | refine wA ?_ | refine wB ?_ | refine wC rfl ?_ | refine wD rfl ?_ | refine wE ?_ | refine wF (by omega) ?_ | ((first | refine wG ?_ | refine wH ?_ | refine wI ?_ | refine wJ ?_ | refine wK ?_ | refine wL ?_); simp (disch := omega) only [wP, wZ, undef, UInt8.reduceToNat, Nat.reduceOr, Nat.reduceAnd, Nat.reduceXor, Nat.reduceDiv, if_pos, if_neg, aStore, frz, AV.flat, ↓reduceIte, ne_eq, reduceCtorEq, Int.reduceToNat, Nat.reduceEqDiff, Nat.reduceAdd, Nat.reduceSub, Nat.reduceMul, Int.reduceAdd, Int.reduceMul, Int.reduceSub, Int.reduceLT, Int.reduceLE, Int.reduceEq, Int.reduceNe, Nat.reduceLeDiff, Nat.reduceLT, Int.reduceNeg, Nat.reducePow, Nat.reduceMod, ByteArray.size, u1, u2, u3, u4, u5, u6]))
end Go.Proofs.YtbmppmdklappiaaDoor.Aw
namespace Go.Proofs.YtbmppmdklappiaaDoor.Aw
open Go
set_option linter.unusedSimpArgs false
set_option linter.unusedVariables false
theorem first3 {x y : Nat} (hx : x < 2) (hy : y < 2) (r : List Nat) (hr : ∀ z ∈ r, z < 2) : (bytesB (1 :: x :: y :: r)).getD 0 0 &&& 7 = UInt8.ofNat (1 + 2 * x + 4 * y) := by
  have h0 : (bytesB (1 :: x :: y :: r)).getD 0 0 = byteAt (1 :: x :: y :: r) 0 := by
    rw [bytesB]
    have : 0 < ((1 :: x :: y :: r).length + 7) / 8 := by simp only [List.length_cons]; omega
    simp [List.getD, this]
  rw [h0, byteAt]
  simp only [Nat.mul_zero, List.drop_zero, List.take_succ_cons, numB]
  obtain ⟨k, hk⟩ : ∃ k, k = numB (r.take 5) := ⟨_, rfl⟩
  rw [← hk]
  refine UInt8.toNat_inj.1 ?_
  rw [UInt8.toNat_and, UInt8.toNat_ofNat', UInt8.toNat_ofNat']
  have h7 : (7 : UInt8).toNat = 2 ^ 3 - 1 := rfl
  rw [h7, Nat.and_two_pow_sub_one_eq_mod]
  omega
theorem pcsB_lt {l d : List Nat} {P : List (Nat × Nat)} : ∀ x ∈ pcsB l d P, x < 2 := fun x hx => by
  rcases List.mem_append.1 hx with hx | hx
  · obtain ⟨p, _, hx⟩ := List.mem_flatMap.1 hx
    exact pcB_lt x hx
  · exact symB_lt x hx
set_option maxHeartbeats 1000000 in
set_option maxRecDepth 100000 in
theorem DeflateForms_law' [Tabs Tryd.prog] (ht : Tabs.tab Tryd.prog 0 = some (tlO.map nA)) (nl : Bool) (b : List UInt8) (hb : b.length ≤ maxLen) (hn : nl = true → b = []) :
    Con Tryd.prog n_drayagelaw05_DeflateForms [.sl nl none (b.map u8)] (boo true) := by
  refine Con.of' mix Tryd.func4 rfl Tryd.ntmps4 e_drayagelaw05_DeflateForms r_drayagelaw05_DeflateForms (by simp) (by simp only [AV.free, AV.free.freeL, free_u8, Bool.and_self]) rfl ?_
  unfold s_drayagelaw05_DeflateForms
  have fb : AV.free.freeL (b.map u8) = true := free_u8
  have aw := law05_awake_c
  by_cases c1 : 140000 < b.length
  · have d1 : decide ((140000 : Int) < (b.length : Int)) = true := decide_eq_true (by omega)
    repeat (first | refine wA ?_ | refine wB ?_ | refine wC rfl ?_ | refine wD rfl ?_ | refine wE ?_ | refine wF (by omega) ?_ | ((first | refine wG ?_ | refine wH ?_ | refine wI ?_ | refine wJ ?_ | refine wK ?_ | refine wL ?_); simp (disch := omega) only [wP, wZ, undef, seval, if_pos, if_neg, aStore, frz, AV.flat, ↓reduceIte, ne_eq, reduceCtorEq, ByteArray.size]))
    refine goC_p _ (.inl ⟨rfl, aw⟩) ?_
    repeat (first | refine wA ?_ | refine wB ?_ | refine wC rfl ?_ | refine wD rfl ?_ | refine wE ?_ | refine wF (by omega) ?_ | ((first | refine wG ?_ | refine wH ?_ | refine wI ?_ | refine wJ ?_ | refine wK ?_ | refine wL ?_); simp (disch := omega) only [wP, wZ, undef, seval, if_pos, if_neg, aStore, frz, AV.flat, ↓reduceIte, ne_eq, reduceCtorEq, ByteArray.size, d1, List.length_map]))
  have d1 : decide ((140000 : Int) < (b.length : Int)) = false := decide_eq_false (by omega)
  have q0 := Deflate_0 nl b (by omega)
  have qs := ref_Stored_c nl b (by omega)
  have hf : AV.free.freeL [.sl nl none (b.map u8)] = true := by simp only [AV.free, AV.free.freeL, free_u8, Bool.and_self]
  have hf2 : ∀ z : Int, AV.free.freeL [.sl nl none (b.map u8), .sc (.int .i64 z)] = true := fun z => by simp only [AV.free, AV.free.freeL, free_u8, Bool.and_self]
  obtain ⟨B0, hB0⟩ : ∃ B, B = stL b := ⟨_, rfl⟩
  rw [← hB0] at q0 qs
  by_cases c2 : 3000 < b.length
  · have d2 : decide ((3000 : Int) < (b.length : Int)) = true := decide_eq_true (by omega)
    repeat (first | refine wA ?_ | refine wB ?_ | refine wC rfl ?_ | refine wD rfl ?_ | refine wE ?_ | refine wF (by omega) ?_ | ((first | refine wG ?_ | refine wH ?_ | refine wI ?_ | refine wJ ?_ | refine wK ?_ | refine wL ?_); simp (disch := omega) only [wP, wZ, undef, seval, if_pos, if_neg, aStore, frz, AV.flat, ↓reduceIte, ne_eq, reduceCtorEq, ByteArray.size]))
    refine goC_p _ (.inl ⟨rfl, aw⟩) ?_
    repeat (first | refine wA ?_ | refine wB ?_ | refine wC rfl ?_ | refine wD rfl ?_ | refine wE ?_ | refine wF (by omega) ?_ | ((first | refine wG ?_ | refine wH ?_ | refine wI ?_ | refine wJ ?_ | refine wK ?_ | refine wL ?_); simp (disch := omega) only [wP, wZ, undef, seval, if_pos, if_neg, aStore, frz, AV.flat, ↓reduceIte, ne_eq, reduceCtorEq, ByteArray.size, d1, List.length_map]))
    refine goC_p _ (.inl ⟨hf2 0, q0⟩) ?_
    repeat (first | refine wA ?_ | refine wB ?_ | refine wC rfl ?_ | refine wD rfl ?_ | refine wE ?_ | refine wF (by omega) ?_ | ((first | refine wG ?_ | refine wH ?_ | refine wI ?_ | refine wJ ?_ | refine wK ?_ | refine wL ?_); simp (disch := omega) only [wP, wZ, undef, seval, if_pos, if_neg, aStore, frz, AV.flat, ↓reduceIte, ne_eq, reduceCtorEq, ByteArray.size]))
    refine goC_p _ (.inl ⟨hf, qs⟩) ?_
    repeat (first | refine wA ?_ | refine wB ?_ | refine wC rfl ?_ | refine wD rfl ?_ | refine wE ?_ | refine wF (by omega) ?_ | ((first | refine wG ?_ | refine wH ?_ | refine wI ?_ | refine wJ ?_ | refine wK ?_ | refine wL ?_); simp (disch := omega) only [wP, wZ, undef, seval, if_pos, if_neg, aStore, frz, AV.flat, ↓reduceIte, ne_eq, reduceCtorEq, ByteArray.size, d2, List.length_map]))
  have d2 : decide ((3000 : Int) < (b.length : Int)) = false := decide_eq_false (by omega)
  have q1 := Deflate_1 nl b (by omega)
  have q2 := Deflate_2 ht nl b (by omega)
  obtain ⟨B1, hB1⟩ : ∃ B, B = out1 b := ⟨_, rfl⟩
  obtain ⟨B2, hB2⟩ : ∃ B, B = out2 b := ⟨_, rfl⟩
  have hl1 := length_out1 (b := b)
  have hl2 := length_out2 (b := b)
  have hj1 := fixB_len (pcsM_len (b := b) (by omega)) (pcsM_ok (by omega))
  have hj2 := dynB_len (pcsM_len (b := b) (by omega)) (pcsM_ok (by omega))
  have hz1 : (out1 b).getD 0 0 &&& 7 = 3 := by
    rw [out1, fixB, List.append_assoc]
    exact first3 (x := 1) (y := 0) (by omega) (by omega) _ (pcsB_lt)
  have hz2 : (out2 b).getD 0 0 &&& 7 = 5 := by
    rw [out2, dynB]
    obtain ⟨ol, od, l1, d1⟩ := bs_facts (pcsM_len (b := b) (by omega))
    rw [List.append_assoc]
    exact first3 (x := 0) (y := 1) (by omega) (by omega) (tellB (bsL (pcsM b)) (bsD (pcsM b)) ++ pcsB (bsL (pcsM b)) (bsD (pcsM b)) (pcsM b)) (fun z hz => (List.mem_append.1 hz).elim ((tell_facts ol od l1 d1).2 z) (pcsB_lt z))
  rw [← hB1] at q1 hl1 hz1
  rw [← hB2] at q2 hl2 hz2
  obtain ⟨y1, hy1⟩ : ∃ y, y = B1.getD 0 0 := ⟨_, rfl⟩
  obtain ⟨y2, hy2⟩ : ∃ y, y = B2.getD 0 0 := ⟨_, rfl⟩
  rw [← hy1] at hz1
  rw [← hy2] at hz2
  repeat (first | refine wA ?_ | refine wB ?_ | refine wC rfl ?_ | refine wD rfl ?_ | refine wE ?_ | refine wF (by omega) ?_ | ((first | refine wG ?_ | refine wH ?_ | refine wI ?_ | refine wJ ?_ | refine wK ?_ | refine wL ?_); simp (disch := omega) only [wP, wZ, undef, seval, if_pos, if_neg, aStore, frz, AV.flat, ↓reduceIte, ne_eq, reduceCtorEq, ByteArray.size]))
  refine goC_p _ (.inl ⟨rfl, aw⟩) ?_
  repeat (first | refine wA ?_ | refine wB ?_ | refine wC rfl ?_ | refine wD rfl ?_ | refine wE ?_ | refine wF (by omega) ?_ | ((first | refine wG ?_ | refine wH ?_ | refine wI ?_ | refine wJ ?_ | refine wK ?_ | refine wL ?_); simp (disch := omega) only [wP, wZ, undef, seval, if_pos, if_neg, aStore, frz, AV.flat, ↓reduceIte, ne_eq, reduceCtorEq, ByteArray.size, d1, List.length_map]))
  refine goC_p _ (.inl ⟨hf2 0, q0⟩) ?_
  repeat (first | refine wA ?_ | refine wB ?_ | refine wC rfl ?_ | refine wD rfl ?_ | refine wE ?_ | refine wF (by omega) ?_ | ((first | refine wG ?_ | refine wH ?_ | refine wI ?_ | refine wJ ?_ | refine wK ?_ | refine wL ?_); simp (disch := omega) only [wP, wZ, undef, seval, if_pos, if_neg, aStore, frz, AV.flat, ↓reduceIte, ne_eq, reduceCtorEq, ByteArray.size]))
  refine goC_p _ (.inl ⟨hf, qs⟩) ?_
  repeat (first | refine wA ?_ | refine wB ?_ | refine wC rfl ?_ | refine wD rfl ?_ | refine wE ?_ | refine wF (by omega) ?_ | ((first | refine wG ?_ | refine wH ?_ | refine wI ?_ | refine wJ ?_ | refine wK ?_ | refine wL ?_); simp (disch := omega) only [wP, wZ, undef, seval, if_pos, if_neg, aStore, frz, AV.flat, ↓reduceIte, ne_eq, reduceCtorEq, ByteArray.size, d2, List.length_map]))
  refine goC_p _ (.inl ⟨hf2 1, q1⟩) ?_
  repeat (first | refine wA ?_ | refine wB ?_ | refine wC rfl ?_ | refine wD rfl ?_ | refine wE ?_ | refine wF (by omega) ?_ | ((first | refine wG ?_ | refine wH ?_ | refine wI ?_ | refine wJ ?_ | refine wK ?_ | refine wL ?_); simp (disch := omega) only [wP, wZ, undef, seval, if_pos, if_neg, aStore, frz, AV.flat, ↓reduceIte, ne_eq, reduceCtorEq, ByteArray.size]))
  refine goC_p _ (.inl ⟨hf2 2, q2⟩) ?_
  have dl1 : decide ((0 : Int) < (B1.length : Int)) = true := decide_eq_true (by omega)
  have dl2 : decide ((0 : Int) < (B2.length : Int)) = true := decide_eq_true (by omega)
  have g1 : (B1.map u8).getD 0 .junk = u8 y1 := by rw [hy1]; exact getD_u8 (by omega)
  have g2 : (B2.map u8).getD 0 .junk = u8 y2 := by rw [hy2]; exact getD_u8 (by omega)
  have t1 := y1.toNat_lt
  have t2 := y2.toNat_lt
  have z1 : y1.toNat &&& 7 = 3 := by have h := congrArg UInt8.toNat hz1; rwa [UInt8.toNat_and] at h
  have z2 : y2.toNat &&& 7 = 5 := by have h := congrArg UInt8.toNat hz2; rwa [UInt8.toNat_and] at h
  repeat (first | refine wA ?_ | refine wB ?_ | refine wC rfl ?_ | refine wD rfl ?_ | refine wE ?_ | refine wF (by omega) ?_ | ((first | refine wG ?_ | refine wH ?_ | refine wI ?_ | refine wJ ?_ | refine wK ?_ | refine wL ?_); simp (disch := omega) only [wP, wZ, undef, seval, if_pos, if_neg, aStore, frz, AV.flat, ↓reduceIte, ne_eq, reduceCtorEq, ByteArray.size, dl1, dl2, g1, g2, z1, z2, List.length_map]))
end Go.Proofs.YtbmppmdklappiaaDoor.Aw
namespace Go.Proofs.YtbmppmdklappiaaDoor.Aw
open Go
set_option linter.unusedSimpArgs false
set_option linter.unusedVariables false
theorem laid_var {P : Program} {w : World} {n : String} {d : DataW Unit} : ∀ {l : List (String × DataW Unit)} {ps : List MemPlace}, DataW.LaidVars P w l ps → (n, d) ∈ l →
    ∃ g t cs fuel p, P.globalNamed n = some g ∧ (P.globals[g]?).map (·.type) = some t ∧ w.var? P n = some cs ∧ DataW.trod (fun _ => ()) P w 0 (fun _ => true) false fuel t cs.toList = some (d, p)
  | [], _, _, hm => by simp at hm
  | (n', d') :: r, ps, h, hm => by
    obtain ⟨g, t, cs, fuel, p, q, h1, h2, h3, h4, h5, _⟩ := h
    rcases List.mem_cons.1 hm with e | hm
    · cases e; exact ⟨g, t, cs, fuel, p, h1, h2, h3, h4⟩
    · exact laid_var h5 hm
theorem ok_of {P : Program} {W : World} {n : String} {g : Nat} {cs : Array Value} (hg : P.globalNamed n = some g) (zs : List Value) (h3 : W.var? P n = some cs) (hz : cs.toList = zs) (h1 : ∀ v ∈ zs, v.oneCell' = true) :
    (all W).S g ∧ AV.free.freeL (zs.map AV.sc) = true ∧ ∃ (cs : List Value) (E : TypeId) (fr : Nat × Nat), RdL ⟨(all W).S, fun _ _ => none⟩ W (zs.map AV.sc) cs ∧ W.heap[g]? = some (Obj.cells cs.toArray E fr) ∧ ∀ v ∈ cs, v.oneCell' = true := by
  unfold World.var? at h3
  rw [hg, Option.bind_some] at h3
  split at h3
  · rename_i cs' E fr hheap
    simp only [Option.some.injEq] at h3
    subst h3
    exact ⟨lt_of_some hheap, free_sc _, zs, E, fr, rdL_sc _, by rw [hheap, ← hz], h1⟩
  · simp at h3
theorem map_nA_sc (l : List Nat) : l.map nA = (l.map fun x : Nat => Value.int .i64 (x : Int)).map AV.sc := by simp only [List.map_map]; rfl
theorem dataT : (Rows.laid_drayage_deflate_tellers : DataW Unit) = Lib.tabData .i64 (tlO.map fun x : Nat => (x : Int)) := by kernel_rfl
theorem globT : Tryd.prog.globalNamed "drayage/deflate.tellers" = some 0 := by kernel_rfl
theorem gtyT : (Tryd.prog.globals[0]?).map (·.type) = some 134 := by kernel_rfl
@[reducible] def dfl_tabs : Tabs Tryd.prog := ⟨fun g => if g = 0 then some (tlO.map nA) else none⟩
theorem dfl_tab : @Tabs.tab Tryd.prog dfl_tabs 0 = some (tlO.map nA) := rfl
theorem dfl_tabOk (W : World) (h : laidMetH Tryd.prog [("drayage/deflate.tellers", Rows.laid_drayage_deflate_tellers)] W) : @TabOk Tryd.prog dfl_tabs (all W).S W := by
  rw [MakeChecks.laidMetH_plain _ _ _ (by kernel_rfl)] at h
  obtain ⟨ps, h, _⟩ := h
  obtain ⟨g1, t1, cs1, fuel1, p1, a1, b1, c1, d1⟩ := laid_var (n := "drayage/deflate.tellers") (d := Rows.laid_drayage_deflate_tellers) h (by simp)
  obtain rfl := Option.some.inj (globT.symm.trans a1)
  obtain rfl := Option.some.inj (gtyT.symm.trans b1)
  rw [dataT] at d1
  have e1 := Lib.cells_of_tab Tryd.underlying134 Tryd.underlying3 (by kernel_rfl) (by kernel_rfl) d1
  intro g xs hg
  simp only [dfl_tabs, Tabs.tab] at hg
  split at hg
  · rename_i e
    subst e
    cases hg
    rw [map_nA_sc]
    refine ok_of globT _ c1 (e1.trans (by rw [List.map_map]; rfl)) ?_
    intro v hv
    obtain ⟨z, _, rfl⟩ := List.mem_map.1 hv
    rfl
  · simp at hg
@[reducible] def DeflateForms_tabs : Tabs Tryd.prog := dfl_tabs
theorem DeflateForms_tabOk (W : World) (h : laidMetH Tryd.prog Rows.deflateFormsRow.laid W) : @TabOk Tryd.prog DeflateForms_tabs (all W).S W := dfl_tabOk W h
theorem DeflateForms_law (nl : Bool) (b : List UInt8) (hb : b.length ≤ maxLen) (hn : nl = true → b = []) :
    @Con Tryd.prog DeflateForms_tabs n_drayagelaw05_DeflateForms [.sl nl none (b.map u8)] (boo true) := @DeflateForms_law' dfl_tabs dfl_tab nl b hb hn
end Go.Proofs.YtbmppmdklappiaaDoor.Aw
