/- Contracts: (*unpacker).run. -/
import Derived.Test.YtokdmakljdhjiaaDoorPkD
namespace Go.Proofs.YtokdmakljdhjiaaDoor.Aw
open Go
set_option linter.unusedSimpArgs false
set_option linter.unusedVariables false

theorem nxt_sym {l B : List Nat} : ∀ (f n v : Nat), (nxt l B f n v).2.2 = 0 → (nxt l B f n v).1 < l.length ∧ n < (nxt l B f n v).2.1
  | 0, n, v, h => by simp [nxt] at h
  | f + 1, n, v, h => by
    rw [nxt] at h ⊢
    split
    · rename_i c; rw [if_pos c] at h; simp at h
    · rename_i c
      rw [if_neg c] at h
      split
      · rename_i c; rw [if_pos c] at h; simp at h
      · rename_i c
        rw [if_neg c] at h
        split
        · rename_i c; exact ⟨(in_code (by omega) c).1, by simp only; omega⟩
        · rename_i c
          rw [if_neg c] at h
          have := nxt_sym f (n + 1) _ h
          exact ⟨this.1, by omega⟩

theorem runT_le {b : List UInt8} {most s i j : Nat} {d : List Nat} {out o : List UInt8} (h : (runT most d out s).run (bitsL b) i = .ok o j) : o.length ≤ most := by
  rw [runT, run_bnd] at h
  cases h1 : (lenT s).run (bitsL b) i with
  | no e => rw [h1] at h; cases h
  | ok n k =>
    rw [h1] at h
    simp only [BR.bnd] at h
    rw [run_bnd] at h
    cases h2 : (nxtT d 15 0 0).run (bitsL b) k with
    | no e => rw [h2] at h; cases h
    | ok t k2 =>
      rw [h2] at h
      simp only [BR.bnd] at h
      rw [run_bnd] at h
      cases h3 : (disT t).run (bitsL b) k2 with
      | no e => rw [h3] at h; cases h
      | ok z k3 =>
        rw [h3] at h
        simp only [BR.bnd] at h
        split at h
        · cases h
        · split at h
          · cases h
          · simp only [BT.run, BR.ok.injEq] at h
            rw [← h.1, length_cpy]; omega

set_option maxHeartbeats 1000000 in
set_option maxRecDepth 100000 in
theorem inf_run_a [Tabs Tryd.prog] (t : Bool) (most : Nat) (hm : most ≤ 16777216) (nl : Bool) (b : List UInt8) (hb : b.length ≤ 1000000) (i : Nat) (hi : i ≤ 8 * b.length) (out : List UInt8) (ho : out.length ≤ most) (s : Nat) (hs : s < 1000) (d : List Nat) (hd : d.length ≤ 320) (hK : kraft d ≤ 32768) :
    Ans Tryd.prog n_inflate_unpacker_run [.op 1000 0 0, int (s : Int), .fp (.agg (trR d)) 0] (unI t most nl b i out) ((runT most d out s).run (bitsL b) i) (fun _ => int 0) (fun o j => unO 500 t most nl b j o) (fun e => int (e : Int)) 600 := by
  rw [runT, run_bnd]
  have hL := inf_length_a t most nl b hb i hi out s hs
  have hLi := fun a j (h : (lenT s).run (bitsL b) i = .ok a j) => (run_ok h).2 (by rw [length_bitsL]; exact hi)
  have hn58 := fun a j (h : (lenT s).run (bitsL b) i = .ok a j) => lenT_le h
  obtain ⟨r1, hr1⟩ : ∃ r, r = (lenT s).run (bitsL b) i := ⟨_, rfl⟩
  rw [← hr1] at hL hLi hn58 ⊢
  cases r1 with
  | no e1 =>
    have de : decide ((e1 : Int) = 0) = false := decide_eq_false (by have := hL.1; omega)
    refine ⟨hL.1, HCon.of' mix Tryd.func43 rfl Tryd.ntmps43 e_inflate_unpacker_run r_inflate_unpacker_run (by simp) (by simp only [AV.gl.glL, AV.gl, int, and_true]; exact ⟨by omega, trivial, glL_of_free 1 _ free_trR⟩) un_gl ?_⟩
    unfold s_inflate_unpacker_run
    repeat (first | refine wA ?_ | refine wB ?_ | refine wC rfl ?_ | refine wD rfl ?_ | refine wE ?_ | refine wF (by omega) ?_ | ((first | refine wG ?_ | refine wH ?_ | refine wI ?_ | refine wJ ?_ | refine wK ?_ | refine wL ?_); simp (disch := omega) only [wP, wZ, undef, seval, if_pos, if_neg, aStore, frz, AV.flat, ↓reduceIte, ne_eq, reduceCtorEq, ByteArray.size]))
    refine goC_h [(1000, 0), (1001, 0), (1002, 0)] 2000 hL.2 (by simp) (by simp) ?_ ?_ ?_
    iterate 2 (case _ => simp (disch := omega) only [wP, wZ, undef, seval, if_pos, if_neg, aStore, frz, AV.flat, ↓reduceIte, ne_eq, reduceCtorEq, ByteArray.size, unI, unR, rdR, ren_fxA, ren_tree])
    repeat (first | refine wA ?_ | refine wB ?_ | refine wC rfl ?_ | refine wD rfl ?_ | refine wE ?_ | refine wF (by omega) ?_ | ((first | refine wG ?_ | refine wH ?_ | refine wI ?_ | refine wJ ?_ | refine wK ?_ | refine wL ?_); simp (disch := omega) only [wP, wZ, undef, seval, if_pos, if_neg, aStore, frz, AV.flat, ↓reduceIte, ne_eq, reduceCtorEq, ByteArray.size, unI, unO, unR, rdR, ren_fxA, ren_tree, okI, noI, de]))
  | ok n j =>
    have hj := hLi n j rfl
    have hn := hn58 n j rfl
    rw [length_bitsL] at hj
    clear hr1 hLi hn58
    simp only [BR.bnd]
    rw [run_bnd, run_nxt]
    have hfc := nxt_facts (l := d) (B := (bitsL b).drop j) 15 0 0 (Nat.zero_le _)
    have hsy := nxt_sym (l := d) (B := (bitsL b).drop j) 15 0 0
    have hN := huff_Next_h d hd hK nl b hb j hj _ rfl
    rw [List.length_drop, length_bitsL] at hfc
    obtain ⟨⟨sy, m, e⟩, hr2⟩ : ∃ r, r = nxt d ((bitsL b).drop j) 15 0 0 := ⟨_, rfl⟩
    rw [← hr2] at hfc hsy hN ⊢
    simp only at hfc hsy hN
    clear hr2
    by_cases c2 : e = 0
    · subst c2
      have hsy := hsy rfl
      obtain ⟨q, hq⟩ : ∃ q, q = j + m := ⟨_, rfl⟩
      have hq8 : q ≤ 8 * b.length := by omega
      simp only [nxtR, if_true, BR.bnd]
      rw [← hq] at hN ⊢
      rw [run_bnd]
      have hD := inf_distance_a t most nl b hb q hq8 out sy (by omega)
      have hDi := fun a j (h : (disT sy).run (bitsL b) q = .ok a j) => (run_ok h).2 (by rw [length_bitsL]; exact hq8)
      have hD8 := fun a j (h : (disT sy).run (bitsL b) q = .ok a j) => disT_le h
      obtain ⟨r3, hr3⟩ : ∃ r, r = (disT sy).run (bitsL b) q := ⟨_, rfl⟩
      rw [← hr3] at hD hDi hD8 ⊢
      cases r3 with
      | no e3 =>
        have de : decide ((e3 : Int) = 0) = false := decide_eq_false (by have := hD.1; omega)
        refine ⟨hD.1, HCon.of' mix Tryd.func43 rfl Tryd.ntmps43 e_inflate_unpacker_run r_inflate_unpacker_run (by simp) (by simp only [AV.gl.glL, AV.gl, int, and_true]; exact ⟨by omega, trivial, glL_of_free 1 _ free_trR⟩) un_gl ?_⟩
        unfold s_inflate_unpacker_run
        repeat (first | refine wA ?_ | refine wB ?_ | refine wC rfl ?_ | refine wD rfl ?_ | refine wE ?_ | refine wF (by omega) ?_ | ((first | refine wG ?_ | refine wH ?_ | refine wI ?_ | refine wJ ?_ | refine wK ?_ | refine wL ?_); simp (disch := omega) only [wP, wZ, undef, seval, if_pos, if_neg, aStore, frz, AV.flat, ↓reduceIte, ne_eq, reduceCtorEq, ByteArray.size]))
        refine goC_h [(1000, 0), (1001, 0), (1002, 0)] 2000 hL (by simp) (by simp) ?_ ?_ ?_
        iterate 2 (case _ => simp (disch := omega) only [wP, wZ, undef, seval, if_pos, if_neg, aStore, frz, AV.flat, ↓reduceIte, ne_eq, reduceCtorEq, ByteArray.size, unI, unR, rdR, ren_fxA, ren_tree])
        repeat (first | refine wA ?_ | refine wB ?_ | refine wC rfl ?_ | refine wD rfl ?_ | refine wE ?_ | refine wF (by omega) ?_ | ((first | refine wG ?_ | refine wH ?_ | refine wI ?_ | refine wJ ?_ | refine wK ?_ | refine wL ?_); simp (disch := omega) only [wP, wZ, undef, seval, if_pos, if_neg, aStore, frz, AV.flat, ↓reduceIte, ne_eq, reduceCtorEq, ByteArray.size, unI, unO, unR, rdR, ren_fxA, ren_tree, okI, noI]))
        refine goC_h [(1001, 0)] 3000 hN (by simp) (by simp) ?_ ?_ ?_
        iterate 2 (case _ => simp (disch := omega) only [wP, wZ, undef, seval, if_pos, if_neg, aStore, frz, AV.flat, ↓reduceIte, ne_eq, reduceCtorEq, ByteArray.size, rdR, ren_tree])
        repeat (first | refine wA ?_ | refine wB ?_ | refine wC rfl ?_ | refine wD rfl ?_ | refine wE ?_ | refine wF (by omega) ?_ | ((first | refine wG ?_ | refine wH ?_ | refine wI ?_ | refine wJ ?_ | refine wK ?_ | refine wL ?_); simp (disch := omega) only [wP, wZ, undef, seval, if_pos, if_neg, aStore, frz, AV.flat, ↓reduceIte, ne_eq, reduceCtorEq, ByteArray.size, unI, unO, unR, rdR, ren_fxA, ren_tree, okI, noI]))
        refine goC_h [(1000, 0), (1001, 0), (1002, 0)] 4000 hD.2 (by simp) (by simp) ?_ ?_ ?_
        iterate 2 (case _ => simp (disch := omega) only [wP, wZ, undef, seval, if_pos, if_neg, aStore, frz, AV.flat, ↓reduceIte, ne_eq, reduceCtorEq, ByteArray.size, unI, unR, rdR, ren_fxA, ren_tree])
        repeat (first | refine wA ?_ | refine wB ?_ | refine wC rfl ?_ | refine wD rfl ?_ | refine wE ?_ | refine wF (by omega) ?_ | ((first | refine wG ?_ | refine wH ?_ | refine wI ?_ | refine wJ ?_ | refine wK ?_ | refine wL ?_); simp (disch := omega) only [wP, wZ, undef, seval, if_pos, if_neg, aStore, frz, AV.flat, ↓reduceIte, ne_eq, reduceCtorEq, ByteArray.size, unI, unO, unR, rdR, ren_fxA, ren_tree, okI, noI, de]))
      | ok k j2 =>
        have hj2 := hDi k j2 rfl
        have hk := hD8 k j2 rfl
        rw [length_bitsL] at hj2
        clear hr3 hDi hD8
        simp only [BR.bnd]
        by_cases c3 : out.length < k
        · rw [if_pos c3]
          have d3 : decide ((out.length : Int) < (k : Int)) = true := decide_eq_true (by omega)
          refine ⟨by omega, HCon.of' mix Tryd.func43 rfl Tryd.ntmps43 e_inflate_unpacker_run r_inflate_unpacker_run (by simp) (by simp only [AV.gl.glL, AV.gl, int, and_true]; exact ⟨by omega, trivial, glL_of_free 1 _ free_trR⟩) un_gl ?_⟩
          unfold s_inflate_unpacker_run
          repeat (first | refine wA ?_ | refine wB ?_ | refine wC rfl ?_ | refine wD rfl ?_ | refine wE ?_ | refine wF (by omega) ?_ | ((first | refine wG ?_ | refine wH ?_ | refine wI ?_ | refine wJ ?_ | refine wK ?_ | refine wL ?_); simp (disch := omega) only [wP, wZ, undef, seval, if_pos, if_neg, aStore, frz, AV.flat, ↓reduceIte, ne_eq, reduceCtorEq, ByteArray.size]))
          refine goC_h [(1000, 0), (1001, 0), (1002, 0)] 2000 hL (by simp) (by simp) ?_ ?_ ?_
          iterate 2 (case _ => simp (disch := omega) only [wP, wZ, undef, seval, if_pos, if_neg, aStore, frz, AV.flat, ↓reduceIte, ne_eq, reduceCtorEq, ByteArray.size, unI, unR, rdR, ren_fxA, ren_tree])
          repeat (first | refine wA ?_ | refine wB ?_ | refine wC rfl ?_ | refine wD rfl ?_ | refine wE ?_ | refine wF (by omega) ?_ | ((first | refine wG ?_ | refine wH ?_ | refine wI ?_ | refine wJ ?_ | refine wK ?_ | refine wL ?_); simp (disch := omega) only [wP, wZ, undef, seval, if_pos, if_neg, aStore, frz, AV.flat, ↓reduceIte, ne_eq, reduceCtorEq, ByteArray.size, unI, unO, unR, rdR, ren_fxA, ren_tree, okI, noI]))
          refine goC_h [(1001, 0)] 3000 hN (by simp) (by simp) ?_ ?_ ?_
          iterate 2 (case _ => simp (disch := omega) only [wP, wZ, undef, seval, if_pos, if_neg, aStore, frz, AV.flat, ↓reduceIte, ne_eq, reduceCtorEq, ByteArray.size, rdR, ren_tree])
          repeat (first | refine wA ?_ | refine wB ?_ | refine wC rfl ?_ | refine wD rfl ?_ | refine wE ?_ | refine wF (by omega) ?_ | ((first | refine wG ?_ | refine wH ?_ | refine wI ?_ | refine wJ ?_ | refine wK ?_ | refine wL ?_); simp (disch := omega) only [wP, wZ, undef, seval, if_pos, if_neg, aStore, frz, AV.flat, ↓reduceIte, ne_eq, reduceCtorEq, ByteArray.size, unI, unO, unR, rdR, ren_fxA, ren_tree, okI, noI]))
          refine goC_h [(1000, 0), (1001, 0), (1002, 0)] 4000 hD (by simp) (by simp) ?_ ?_ ?_
          iterate 2 (case _ => simp (disch := omega) only [wP, wZ, undef, seval, if_pos, if_neg, aStore, frz, AV.flat, ↓reduceIte, ne_eq, reduceCtorEq, ByteArray.size, unI, unR, rdR, ren_fxA, ren_tree])
          repeat (first | refine wA ?_ | refine wB ?_ | refine wC rfl ?_ | refine wD rfl ?_ | refine wE ?_ | refine wF (by omega) ?_ | ((first | refine wG ?_ | refine wH ?_ | refine wI ?_ | refine wJ ?_ | refine wK ?_ | refine wL ?_); simp (disch := omega) only [wP, wZ, undef, seval, if_pos, if_neg, aStore, frz, AV.flat, ↓reduceIte, ne_eq, reduceCtorEq, ByteArray.size, unI, unO, unR, rdR, ren_fxA, ren_tree, okI, noI, d3]))
        · rw [if_neg c3]
          have d3 : decide ((out.length : Int) < (k : Int)) = false := decide_eq_false (by omega)
          by_cases c4 : most < out.length + n
          · rw [if_pos c4]
            have d4 : decide (((most - out.length : Nat) : Int) < (n : Int)) = true := decide_eq_true (by omega)
            refine ⟨by omega, HCon.of' mix Tryd.func43 rfl Tryd.ntmps43 e_inflate_unpacker_run r_inflate_unpacker_run (by simp) (by simp only [AV.gl.glL, AV.gl, int, and_true]; exact ⟨by omega, trivial, glL_of_free 1 _ free_trR⟩) un_gl ?_⟩
            unfold s_inflate_unpacker_run
            repeat (first | refine wA ?_ | refine wB ?_ | refine wC rfl ?_ | refine wD rfl ?_ | refine wE ?_ | refine wF (by omega) ?_ | ((first | refine wG ?_ | refine wH ?_ | refine wI ?_ | refine wJ ?_ | refine wK ?_ | refine wL ?_); simp (disch := omega) only [wP, wZ, undef, seval, if_pos, if_neg, aStore, frz, AV.flat, ↓reduceIte, ne_eq, reduceCtorEq, ByteArray.size]))
            refine goC_h [(1000, 0), (1001, 0), (1002, 0)] 2000 hL (by simp) (by simp) ?_ ?_ ?_
            iterate 2 (case _ => simp (disch := omega) only [wP, wZ, undef, seval, if_pos, if_neg, aStore, frz, AV.flat, ↓reduceIte, ne_eq, reduceCtorEq, ByteArray.size, unI, unR, rdR, ren_fxA, ren_tree])
            repeat (first | refine wA ?_ | refine wB ?_ | refine wC rfl ?_ | refine wD rfl ?_ | refine wE ?_ | refine wF (by omega) ?_ | ((first | refine wG ?_ | refine wH ?_ | refine wI ?_ | refine wJ ?_ | refine wK ?_ | refine wL ?_); simp (disch := omega) only [wP, wZ, undef, seval, if_pos, if_neg, aStore, frz, AV.flat, ↓reduceIte, ne_eq, reduceCtorEq, ByteArray.size, unI, unO, unR, rdR, ren_fxA, ren_tree, okI, noI]))
            refine goC_h [(1001, 0)] 3000 hN (by simp) (by simp) ?_ ?_ ?_
            iterate 2 (case _ => simp (disch := omega) only [wP, wZ, undef, seval, if_pos, if_neg, aStore, frz, AV.flat, ↓reduceIte, ne_eq, reduceCtorEq, ByteArray.size, rdR, ren_tree])
            repeat (first | refine wA ?_ | refine wB ?_ | refine wC rfl ?_ | refine wD rfl ?_ | refine wE ?_ | refine wF (by omega) ?_ | ((first | refine wG ?_ | refine wH ?_ | refine wI ?_ | refine wJ ?_ | refine wK ?_ | refine wL ?_); simp (disch := omega) only [wP, wZ, undef, seval, if_pos, if_neg, aStore, frz, AV.flat, ↓reduceIte, ne_eq, reduceCtorEq, ByteArray.size, unI, unO, unR, rdR, ren_fxA, ren_tree, okI, noI]))
            refine goC_h [(1000, 0), (1001, 0), (1002, 0)] 4000 hD (by simp) (by simp) ?_ ?_ ?_
            iterate 2 (case _ => simp (disch := omega) only [wP, wZ, undef, seval, if_pos, if_neg, aStore, frz, AV.flat, ↓reduceIte, ne_eq, reduceCtorEq, ByteArray.size, unI, unR, rdR, ren_fxA, ren_tree])
            repeat (first | refine wA ?_ | refine wB ?_ | refine wC rfl ?_ | refine wD rfl ?_ | refine wE ?_ | refine wF (by omega) ?_ | ((first | refine wG ?_ | refine wH ?_ | refine wI ?_ | refine wJ ?_ | refine wK ?_ | refine wL ?_); simp (disch := omega) only [wP, wZ, undef, seval, if_pos, if_neg, aStore, frz, AV.flat, ↓reduceIte, ne_eq, reduceCtorEq, ByteArray.size, unI, unO, unR, rdR, ren_fxA, ren_tree, okI, noI, d3]))
            refine goC_h [(1000, 0), (1001, 0), (1002, 0)] 5000 (inf_room_h t most hm nl b j2 out ho) (by simp) (by simp) ?_ ?_ ?_
            iterate 2 (case _ => simp (disch := omega) only [wP, wZ, undef, seval, if_pos, if_neg, aStore, frz, AV.flat, ↓reduceIte, ne_eq, reduceCtorEq, ByteArray.size, unI, unR, rdR, ren_fxA, ren_tree])
            repeat (first | refine wA ?_ | refine wB ?_ | refine wC rfl ?_ | refine wD rfl ?_ | refine wE ?_ | refine wF (by omega) ?_ | ((first | refine wG ?_ | refine wH ?_ | refine wI ?_ | refine wJ ?_ | refine wK ?_ | refine wL ?_); simp (disch := omega) only [wP, wZ, undef, seval, if_pos, if_neg, aStore, frz, AV.flat, ↓reduceIte, ne_eq, reduceCtorEq, ByteArray.size, unI, unO, unR, rdR, ren_fxA, ren_tree, okI, noI, d4]))
          · rw [if_neg c4]
            have d4 : decide (((most - out.length : Nat) : Int) < (n : Int)) = false := decide_eq_false (by omega)
            refine HCon.of' mix Tryd.func43 rfl Tryd.ntmps43 e_inflate_unpacker_run r_inflate_unpacker_run (by simp) (by simp only [AV.gl.glL, AV.gl, int, and_true]; exact ⟨by omega, trivial, glL_of_free 1 _ free_trR⟩) un_gl ?_
            unfold s_inflate_unpacker_run
            repeat (first | refine wA ?_ | refine wB ?_ | refine wC rfl ?_ | refine wD rfl ?_ | refine wE ?_ | refine wF (by omega) ?_ | ((first | refine wG ?_ | refine wH ?_ | refine wI ?_ | refine wJ ?_ | refine wK ?_ | refine wL ?_); simp (disch := omega) only [wP, wZ, undef, seval, if_pos, if_neg, aStore, frz, AV.flat, ↓reduceIte, ne_eq, reduceCtorEq, ByteArray.size]))
            refine goC_h [(1000, 0), (1001, 0), (1002, 0)] 2000 hL (by simp) (by simp) ?_ ?_ ?_
            iterate 2 (case _ => simp (disch := omega) only [wP, wZ, undef, seval, if_pos, if_neg, aStore, frz, AV.flat, ↓reduceIte, ne_eq, reduceCtorEq, ByteArray.size, unI, unR, rdR, ren_fxA, ren_tree])
            repeat (first | refine wA ?_ | refine wB ?_ | refine wC rfl ?_ | refine wD rfl ?_ | refine wE ?_ | refine wF (by omega) ?_ | ((first | refine wG ?_ | refine wH ?_ | refine wI ?_ | refine wJ ?_ | refine wK ?_ | refine wL ?_); simp (disch := omega) only [wP, wZ, undef, seval, if_pos, if_neg, aStore, frz, AV.flat, ↓reduceIte, ne_eq, reduceCtorEq, ByteArray.size, unI, unO, unR, rdR, ren_fxA, ren_tree, okI, noI]))
            refine goC_h [(1001, 0)] 3000 hN (by simp) (by simp) ?_ ?_ ?_
            iterate 2 (case _ => simp (disch := omega) only [wP, wZ, undef, seval, if_pos, if_neg, aStore, frz, AV.flat, ↓reduceIte, ne_eq, reduceCtorEq, ByteArray.size, rdR, ren_tree])
            repeat (first | refine wA ?_ | refine wB ?_ | refine wC rfl ?_ | refine wD rfl ?_ | refine wE ?_ | refine wF (by omega) ?_ | ((first | refine wG ?_ | refine wH ?_ | refine wI ?_ | refine wJ ?_ | refine wK ?_ | refine wL ?_); simp (disch := omega) only [wP, wZ, undef, seval, if_pos, if_neg, aStore, frz, AV.flat, ↓reduceIte, ne_eq, reduceCtorEq, ByteArray.size, unI, unO, unR, rdR, ren_fxA, ren_tree, okI, noI]))
            refine goC_h [(1000, 0), (1001, 0), (1002, 0)] 4000 hD (by simp) (by simp) ?_ ?_ ?_
            iterate 2 (case _ => simp (disch := omega) only [wP, wZ, undef, seval, if_pos, if_neg, aStore, frz, AV.flat, ↓reduceIte, ne_eq, reduceCtorEq, ByteArray.size, unI, unR, rdR, ren_fxA, ren_tree])
            repeat (first | refine wA ?_ | refine wB ?_ | refine wC rfl ?_ | refine wD rfl ?_ | refine wE ?_ | refine wF (by omega) ?_ | ((first | refine wG ?_ | refine wH ?_ | refine wI ?_ | refine wJ ?_ | refine wK ?_ | refine wL ?_); simp (disch := omega) only [wP, wZ, undef, seval, if_pos, if_neg, aStore, frz, AV.flat, ↓reduceIte, ne_eq, reduceCtorEq, ByteArray.size, unI, unO, unR, rdR, ren_fxA, ren_tree, okI, noI, d3]))
            refine goC_h [(1000, 0), (1001, 0), (1002, 0)] 5000 (inf_room_h t most hm nl b j2 out ho) (by simp) (by simp) ?_ ?_ ?_
            iterate 2 (case _ => simp (disch := omega) only [wP, wZ, undef, seval, if_pos, if_neg, aStore, frz, AV.flat, ↓reduceIte, ne_eq, reduceCtorEq, ByteArray.size, unI, unR, rdR, ren_fxA, ren_tree])
            repeat (first | refine wA ?_ | refine wB ?_ | refine wC rfl ?_ | refine wD rfl ?_ | refine wE ?_ | refine wF (by omega) ?_ | ((first | refine wG ?_ | refine wH ?_ | refine wI ?_ | refine wJ ?_ | refine wK ?_ | refine wL ?_); simp (disch := omega) only [wP, wZ, undef, seval, if_pos, if_neg, aStore, frz, AV.flat, ↓reduceIte, ne_eq, reduceCtorEq, ByteArray.size, unI, unO, unR, rdR, ren_fxA, ren_tree, okI, noI, d4]))
            refine SWp.loop (α := Nat × Nat) (fun x => mk 77 (202 + x.1) [(0, .op 1000 0 0), (9, int (k : Int)), (51, int (n : Int)), (52, int (x.1 : Int))] [(1000, 0, .row false (unR t most x.2 (out.length + x.1))), (1001, 0, .row false (rdR nl b j2)), (1002, x.2, .row (nl0 (out.length + x.1)) ((cpy out k x.1).map u8))])
              (fun x => x.1 ≤ n) (fun x => n - x.1) (0, 0) (Nat.zero_le _) (le_mk rfl ?_ ?_ ?_) ?_
            · exact Nat.le_refl _
            iterate 2 (case _ => simp (disch := omega) only [wP, wZ, undef, seval, if_pos, if_neg, aStore, frz, AV.flat, ↓reduceIte, ne_eq, reduceCtorEq, ByteArray.size, unR, rdR, cpy])
            rintro ⟨x, g⟩ hx -
            simp only at hx
            have hcl := length_cpy (k := k) (n := x) (out := out)
            have hcs := cpy_snoc (k := k) (n := x) (out := out)
            obtain ⟨c, hc⟩ : ∃ c, c = cpy out k x := ⟨_, rfl⟩
            rw [← hc] at hcl hcs ⊢
            rw [hcl] at hcs
            repeat (first | refine wA ?_ | refine wB ?_ | refine wC rfl ?_ | refine wD rfl ?_ | refine wE ?_ | refine wF (by omega) ?_ | ((first | refine wG ?_ | refine wH ?_ | refine wI ?_ | refine wJ ?_ | refine wK ?_ | refine wL ?_); simp (disch := omega) only [wP, wZ, undef, seval, if_pos, if_neg, aStore, frz, AV.flat, ↓reduceIte, ne_eq, reduceCtorEq, ByteArray.size]))
            refine SWp.cond rfl (fun h => ?_) (fun h => ?_)
            · simp only [decide_eq_true_eq] at h
              obtain ⟨z, hz⟩ : ∃ z, z = out.length + x - k := ⟨_, rfl⟩
              have ez : (out.length : Int) + (x : Int) - (k : Int) = (z : Int) := by omega
              rw [← hz] at hcs
              obtain ⟨v, hv⟩ : ∃ v, v = c.getD z 0 := ⟨_, rfl⟩
              rw [← hv] at hcs
              have hn0 : nl0 (out.length + (x + 1)) = false := nl0_pos (by omega)
              repeat (first | refine wA ?_ | refine wB ?_ | refine wC rfl ?_ | refine wD rfl ?_ | refine wE ?_ | refine wF (by omega) ?_ | ((first | refine wG ?_ | refine wH ?_ | refine wI ?_ | refine wJ ?_ | refine wK ?_ | refine wL ?_); simp (disch := omega) only [wP, wZ, undef, seval, if_pos, if_neg, aStore, frz, AV.flat, ↓reduceIte, ne_eq, reduceCtorEq, ByteArray.size, unR, hcl, ez, ← hv, cells_fxA]))
              refine At.of (x + 1, 202 + x) (by simp only; omega) (by simp only; omega) rfl rfl ?_ ?_ ?_
              · simp only; omega
              iterate 2 (case _ => simp (disch := omega) only [wP, wZ, undef, seval, if_pos, if_neg, aStore, frz, AV.flat, ↓reduceIte, ne_eq, reduceCtorEq, ByteArray.size, unR, hcs, hn0, Nat.add_assoc])
            · simp only [decide_eq_false_iff_not] at h
              obtain rfl : x = n := by omega
              refine SWp.le (le_mk (N := 77) (gc := 500) (l := []) (h := [(1000, 0, .row false (unR t most g (out.length + x))), (1001, 0, .row false (rdR nl b j2)), (1002, g, .row (nl0 (out.length + x)) (c.map u8))]) rfl ?_ ?_ ?_) ?_
              · simp only; omega
              iterate 2 (case _ => simp (disch := omega) only [wP, wZ, undef, seval, if_pos, if_neg, aStore, frz, AV.flat, ↓reduceIte, ne_eq, reduceCtorEq, ByteArray.size])
              refine SWp.renew 1002 g (o := .row (nl0 (out.length + x)) (c.map u8)) (by simp (disch := omega) only [wP, wZ, undef, seval, if_pos, if_neg, aStore, frz, AV.flat, ↓reduceIte, ne_eq, reduceCtorEq, ByteArray.size]) ?_
              refine SWp.le (le_mk (N := 77) (gc := 501) (l := []) (h := [(1000, 0, .row false (unR t most 500 (out.length + x))), (1001, 0, .row false (rdR nl b j2)), (1002, 500, .row (nl0 (out.length + x)) (c.map u8))]) rfl ?_ ?_ ?_) ?_
              · exact Nat.le_refl _
              iterate 2 (case _ => simp (disch := omega) only [wP, wZ, undef, seval, if_pos, if_neg, aStore, frz, AV.flat, ↓reduceIte, ne_eq, reduceCtorEq, ByteArray.size, rgn_eq, rgH_at, unR, rdR, ren_fxA])
              repeat (first | refine wA ?_ | refine wB ?_ | refine wC rfl ?_ | refine wD rfl ?_ | refine wE ?_ | refine wF (by omega) ?_ | ((first | refine wG ?_ | refine wH ?_ | refine wI ?_ | refine wJ ?_ | refine wK ?_ | refine wL ?_); simp (disch := omega) only [wP, wZ, undef, seval, if_pos, if_neg, aStore, frz, AV.flat, ↓reduceIte, ne_eq, reduceCtorEq, ByteArray.size, unO, unR, rdR, hcl, ← hc]))
    · simp only [nxtR, if_neg c2, BR.bnd]
      have he : e ≠ 0 ∧ e ≤ 10 := by omega
      have de : decide ((e : Int) = 0) = false := decide_eq_false (by omega)
      refine ⟨he, HCon.of' mix Tryd.func43 rfl Tryd.ntmps43 e_inflate_unpacker_run r_inflate_unpacker_run (by simp) (by simp only [AV.gl.glL, AV.gl, int, and_true]; exact ⟨by omega, trivial, glL_of_free 1 _ free_trR⟩) un_gl ?_⟩
      unfold s_inflate_unpacker_run
      repeat (first | refine wA ?_ | refine wB ?_ | refine wC rfl ?_ | refine wD rfl ?_ | refine wE ?_ | refine wF (by omega) ?_ | ((first | refine wG ?_ | refine wH ?_ | refine wI ?_ | refine wJ ?_ | refine wK ?_ | refine wL ?_); simp (disch := omega) only [wP, wZ, undef, seval, if_pos, if_neg, aStore, frz, AV.flat, ↓reduceIte, ne_eq, reduceCtorEq, ByteArray.size]))
      refine goC_h [(1000, 0), (1001, 0), (1002, 0)] 2000 hL (by simp) (by simp) ?_ ?_ ?_
      iterate 2 (case _ => simp (disch := omega) only [wP, wZ, undef, seval, if_pos, if_neg, aStore, frz, AV.flat, ↓reduceIte, ne_eq, reduceCtorEq, ByteArray.size, unI, unR, rdR, ren_fxA, ren_tree])
      repeat (first | refine wA ?_ | refine wB ?_ | refine wC rfl ?_ | refine wD rfl ?_ | refine wE ?_ | refine wF (by omega) ?_ | ((first | refine wG ?_ | refine wH ?_ | refine wI ?_ | refine wJ ?_ | refine wK ?_ | refine wL ?_); simp (disch := omega) only [wP, wZ, undef, seval, if_pos, if_neg, aStore, frz, AV.flat, ↓reduceIte, ne_eq, reduceCtorEq, ByteArray.size, unI, unO, unR, rdR, ren_fxA, ren_tree, okI, noI]))
      refine goC_h [(1001, 0)] 3000 hN (by simp) (by simp) ?_ ?_ ?_
      iterate 2 (case _ => simp (disch := omega) only [wP, wZ, undef, seval, if_pos, if_neg, aStore, frz, AV.flat, ↓reduceIte, ne_eq, reduceCtorEq, ByteArray.size, rdR, ren_tree])
      repeat (first | refine wA ?_ | refine wB ?_ | refine wC rfl ?_ | refine wD rfl ?_ | refine wE ?_ | refine wF (by omega) ?_ | ((first | refine wG ?_ | refine wH ?_ | refine wI ?_ | refine wJ ?_ | refine wK ?_ | refine wL ?_); simp (disch := omega) only [wP, wZ, undef, seval, if_pos, if_neg, aStore, frz, AV.flat, ↓reduceIte, ne_eq, reduceCtorEq, ByteArray.size, unI, unO, unR, rdR, ren_fxA, ren_tree, okI, noI, de]))
end Go.Proofs.YtokdmakljdhjiaaDoor.Aw
