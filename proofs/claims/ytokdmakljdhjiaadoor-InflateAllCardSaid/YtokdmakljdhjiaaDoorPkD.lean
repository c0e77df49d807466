/- Contracts: (*state).number, bad of drayageref04. -/
import Derived.Test.YtokdmakljdhjiaaDoorPkC
import Derived.Test.YtokdmakljdhjiaaDoorAwW
namespace Go.Proofs.YtokdmakljdhjiaaDoor.Aw
open Go
set_option linter.unusedSimpArgs false
set_option linter.unusedVariables false

/-- Cells of which some are no longer told. -/
def Blur : List AV → List AV → Prop
  | [], [] => True
  | x :: xs, y :: ys => (x = y ∨ x = .junk) ∧ Blur xs ys
  | _, _ => False
theorem blur_gl {c : Nat} : ∀ {xs ys : List AV}, Blur xs ys → AV.gl.glL c ys → AV.gl.glL c xs
  | [], [], _, h => h
  | x :: xs, y :: ys, hb, h => by
    simp only [AV.gl.glL] at h ⊢
    refine ⟨?_, blur_gl hb.2 h.2⟩
    rcases hb.1 with rfl | rfl
    · exact h.1
    · simp [AV.gl]
  | [], _ :: _, hb, _ => hb.elim
  | _ :: _, [], hb, _ => hb.elim
theorem blur_rd {G : Gh} {w : World} : ∀ {xs ys : List AV} {vs : List Value}, Blur xs ys → RdL G w ys vs → RdL G w xs vs
  | [], [], _, _, h => h
  | x :: xs, y :: ys, vs, hb, h => by
    simp only [RdL] at h ⊢
    obtain ⟨v, r, rfl, h1, h2⟩ := h
    refine ⟨v, r, rfl, ?_, blur_rd hb.2 h2⟩
    rcases hb.1 with rfl | rfl
    · exact h1
    · simp [Rd]
  | [], _ :: _, _, hb, _ => hb.elim
  | _ :: _, [], _, hb, _ => hb.elim
theorem SWp.blur {P : Program} [Tabs P] {Q : Ex → ASt → Prop} {st : ASt} {c : SCode} (id g : Nat) {nl : Bool} {cells : List AV} (cells' : List AV) (hid : st.hp id = some (g, .row nl cells)) (hb : Blur cells' cells)
    (h : SWp P c Q ⟨st.tm, updH st.hp id (some (g, .row nl cells')), st.gc, st.N⟩) : SWp P c Q st := by
  intro hm code hc w0 M Z G a w hR
  have hH2 := heap_recell hR.heap hid (blur_gl hb (hR.heap.gl _ _ _ _ hid).2) (by
      intro e; subst e
      cases cells' with
      | nil => rfl
      | cons x xs => exact hb.elim) (fun vs hvs => blur_rd hb hvs)
  exact h hm code hc w0 M Z G a w ⟨hR.keep, hH2, hR.size, hR.tm, hR.gl, hR.defers, hR.fr, hR.ext, hR.lc, hR.lc1, hR.tabs⟩

/-- The cells of the document's state. -/
def stR (nb : Bool) (B : List Nat) (most g n i e : Nat) : List AV := [.sl nb none (B.map nA), int (i : Int), .own 1001 g none 0 n, int (most : Int), int (e : Int)]
def stI (nb : Bool) (B : List Nat) (most i e : Nat) (out : List UInt8) : List AO := [.row false (stR nb B most 0 out.length i e), .row (nl0 out.length) (out.map u8)]
def stO (g : Nat) (nb : Bool) (B : List Nat) (most i e : Nat) (out : List UInt8) : List (Nat × Nat × AO) := [(1000, 0, .row false (stR nb B most g out.length i e)), (1001, g, .row (nl0 out.length) (out.map u8))]
theorem st_gl {nb : Bool} {B : List Nat} {most i e : Nat} {out : List UInt8} : ∀ m cells, AO.row m cells ∈ stI nb B most i e out → AV.gl.glL 1 cells := by
  intro m cells h
  simp only [stI, List.mem_cons, AO.row.injEq, List.not_mem_nil, or_false] at h
  obtain ⟨-, rfl⟩ | ⟨-, rfl⟩ := h
  · simp only [stR, AV.gl.glL, AV.gl, int, and_true]
    refine ⟨glL_of_free _ _ free_nA, ?_⟩
    simp
  · exact glL_of_free _ _ free_u8
/-- What remains of it behind an error. -/
def jkR (e : Nat) : List AV := [.junk, .junk, .junk, .junk, int (e : Int)]

set_option maxRecDepth 100000 in
theorem rf_bad_h [Tabs Tryd.prog] (nb : Bool) (B : List Nat) (most i e : Nat) (out : List UInt8) (is : Bool) (x : Nat) :
    HCon Tryd.prog n_drayageref04_state_bad [.op 1000 0 0, boo is, int (x : Int)] (stI nb B most i e out) (.tup []) (stO 0 nb B most i (if is = true ∧ e = 0 then x else e) out) 1 := by
  refine HCon.of' mix Tryd.func27 rfl Tryd.ntmps27 e_drayageref04_state_bad r_drayageref04_state_bad (by simp) (by simp [AV.gl, AV.gl.glL, int, boo]) st_gl ?_
  unfold s_drayageref04_state_bad
  cases is with
  | false =>
    rw [if_neg (by simp)]
    repeat (first | refine wA ?_ | refine wB ?_ | refine wC rfl ?_ | refine wD rfl ?_ | refine wE ?_ | refine wF (by omega) ?_ | ((first | refine wG ?_ | refine wH ?_ | refine wI ?_ | refine wJ ?_ | refine wK ?_ | refine wL ?_); simp (disch := omega) only [wP, wZ, undef, seval, if_pos, if_neg, aStore, frz, AV.flat, ↓reduceIte, ne_eq, reduceCtorEq, ByteArray.size, stI, stR, stO, iR]))
  | true =>
    by_cases c : e = 0
    · subst c
      rw [if_pos ⟨rfl, rfl⟩]
      repeat (first | refine wA ?_ | refine wB ?_ | refine wC rfl ?_ | refine wD rfl ?_ | refine wE ?_ | refine wF (by omega) ?_ | ((first | refine wG ?_ | refine wH ?_ | refine wI ?_ | refine wJ ?_ | refine wK ?_ | refine wL ?_); simp (disch := omega) only [wP, wZ, undef, seval, if_pos, if_neg, aStore, frz, AV.flat, ↓reduceIte, ne_eq, reduceCtorEq, ByteArray.size, stI, stR, stO, iR]))
    · have d : decide ((e : Int) = 0) = false := decide_eq_false (by omega)
      rw [if_neg (fun h => c h.2)]
      repeat (first | refine wA ?_ | refine wB ?_ | refine wC rfl ?_ | refine wD rfl ?_ | refine wE ?_ | refine wF (by omega) ?_ | ((first | refine wG ?_ | refine wH ?_ | refine wI ?_ | refine wJ ?_ | refine wK ?_ | refine wL ?_); simp (disch := omega) only [wP, wZ, undef, seval, if_pos, if_neg, aStore, frz, AV.flat, ↓reduceIte, ne_eq, reduceCtorEq, ByteArray.size, stI, stR, stO, iR, d]))

/-- The next n bits of the document's state: the number, the place, the error. -/
def nuS (B : List Nat) (n i e : Nat) : Nat × Nat × Nat := if e ≠ 0 then (0, i, e) else if i + n ≤ B.length then (numB ((B.drop i).take n), i + n, 0) else (0, i, 2)

set_option maxRecDepth 100000 in
theorem rf_number_h [Tabs Tryd.prog] (nb : Bool) (B : List Nat) (hBl : B.length ≤ 100000) (hB : ∀ x ∈ B, x < 2) (most i e : Nat) (hi : i ≤ B.length) (out : List UInt8) (n : Nat) (hn : n ≤ 24) :
    HCon Tryd.prog n_drayageref04_state_number [.op 1000 0 0, int (n : Int)] (stI nb B most i e out) (int ((nuS B n i e).1 : Int)) (stO 0 nb B most (nuS B n i e).2.1 (nuS B n i e).2.2 out) 1 := by
  refine HCon.of' mix Tryd.func13 rfl Tryd.ntmps13 e_drayageref04_state_number r_drayageref04_state_number (by simp) (by simp [AV.gl, AV.gl.glL, int]) st_gl ?_
  unfold s_drayageref04_state_number
  by_cases c : e = 0
  · subst c
    by_cases c2 : i + n ≤ B.length
    · rw [show nuS B n i 0 = (numB ((B.drop i).take n), i + n, 0) by rw [nuS, if_neg (by simp), if_pos c2]]
      have d : decide ((B.length : Int) - (i : Int) < (n : Int)) = false := decide_eq_false (by omega)
      have hN := ref_Number_c nb ((B.drop i).take n) (by rw [List.length_take]; omega) (fun x hx => hB x (List.mem_of_mem_drop (List.mem_of_mem_take hx)))
      have hdt : (B.take (i + n)).drop i = (B.drop i).take n := by rw [List.drop_take]; congr 1; omega
      have e1 : (i : Int) + (n : Int) - (n : Int) = (i : Int) := by omega
      obtain ⟨j, hj⟩ : ∃ j, j = i + n := ⟨_, rfl⟩
      have ej : (i : Int) + (n : Int) = (j : Int) := by omega
      have ej2 : (j : Int) - (n : Int) = (i : Int) := by omega
      rw [← hj] at hdt ⊢
      have hjl : j ≤ B.length := by omega
      repeat (first | refine wA ?_ | refine wB ?_ | refine wC rfl ?_ | refine wD rfl ?_ | refine wE ?_ | refine wF (by omega) ?_ | ((first | refine wG ?_ | refine wH ?_ | refine wI ?_ | refine wJ ?_ | refine wK ?_ | refine wL ?_); simp (disch := omega) only [wP, wZ, undef, seval, if_pos, if_neg, aStore, frz, AV.flat, ↓reduceIte, ne_eq, reduceCtorEq, ByteArray.size, stI, stR, d, iR, ej, ej2, hdt]))
      refine goC_p _ (.inl ⟨by simp only [AV.free, AV.free.freeL, free_nA, Bool.and_self], hN⟩) ?_
      repeat (first | refine wA ?_ | refine wB ?_ | refine wC rfl ?_ | refine wD rfl ?_ | refine wE ?_ | refine wF (by omega) ?_ | ((first | refine wG ?_ | refine wH ?_ | refine wI ?_ | refine wJ ?_ | refine wK ?_ | refine wL ?_); simp (disch := omega) only [wP, wZ, undef, seval, if_pos, if_neg, aStore, frz, AV.flat, ↓reduceIte, ne_eq, reduceCtorEq, ByteArray.size, stO, stR, iR]))
    · rw [show nuS B n i 0 = (0, i, 2) by rw [nuS, if_neg (by simp), if_neg c2]]
      have d : decide ((B.length : Int) - (i : Int) < (n : Int)) = true := decide_eq_true (by omega)
      repeat (first | refine wA ?_ | refine wB ?_ | refine wC rfl ?_ | refine wD rfl ?_ | refine wE ?_ | refine wF (by omega) ?_ | ((first | refine wG ?_ | refine wH ?_ | refine wI ?_ | refine wJ ?_ | refine wK ?_ | refine wL ?_); simp (disch := omega) only [wP, wZ, undef, seval, if_pos, if_neg, aStore, frz, AV.flat, ↓reduceIte, ne_eq, reduceCtorEq, ByteArray.size, stI, stR, stO, d, iR]))
  · rw [show nuS B n i e = (0, i, e) by rw [nuS, if_pos c]]
    have d : decide ((e : Int) = 0) = false := decide_eq_false (by omega)
    repeat (first | refine wA ?_ | refine wB ?_ | refine wC rfl ?_ | refine wD rfl ?_ | refine wE ?_ | refine wF (by omega) ?_ | ((first | refine wG ?_ | refine wH ?_ | refine wI ?_ | refine wJ ?_ | refine wK ?_ | refine wL ?_); simp (disch := omega) only [wP, wZ, undef, seval, if_pos, if_neg, aStore, frz, AV.flat, ↓reduceIte, ne_eq, reduceCtorEq, ByteArray.size, stI, stR, stO, d, iR]))
end Go.Proofs.YtokdmakljdhjiaaDoor.Aw

namespace Go.Proofs.YtokdmakljdhjiaaDoor.Aw
open Go
set_option linter.unusedSimpArgs false
set_option linter.unusedVariables false

/-- The two codes of a block; those of kind 1, once they are there. -/
def cds (l d : List Nat) : AV := .fp (.agg [.fp (.agg (trR l)) 0, .fp (.agg (trR d)) 0]) 0
def fxA : Bool → AV
  | true => cds fixL fixD
  | false => .sc (.pointer none)
theorem free_cds {l d : List Nat} : (cds l d).free = true := by simp only [cds, AV.free, AV.free.freeL, free_trR, Bool.and_self]
theorem free_fxA {t : Bool} : (fxA t).free = true := by cases t
                                                        · rfl
                                                        · exact free_cds
theorem ren_cds {ρ : Nat → Nat → Nat × Nat} {l d : List Nat} : ren ρ (cds l d) = cds l d := ren_free ρ _ free_cds
theorem ren_fxA {ρ : Nat → Nat → Nat × Nat} {t : Bool} : ren ρ (fxA t) = fxA t := ren_free ρ _ free_fxA
theorem fzo_fxA {id g : Nat} {nl : Bool} {cells : List AV} {t : Bool} : fzo id g nl cells (fxA t) = fxA t := by cases t <;> rfl
theorem cells_fxA {t : Bool} : cellsA (fxA t) = some [fxA t] := by cases t <;> rfl

/-- The cells of an unpacker; what is handed in with it; what it leaves. -/
def unR (t : Bool) (most g n : Nat) : List AV := [.op 1001 0 0, .own 1002 g none 0 n, int (most : Int), fxA t]
def unI (t : Bool) (most : Nat) (nl : Bool) (b : List UInt8) (i : Nat) (out : List UInt8) : List AO := [.row false (unR t most 0 out.length), .row false (rdR nl b i), .row (nl0 out.length) (out.map u8)]
def unO (g : Nat) (t : Bool) (most : Nat) (nl : Bool) (b : List UInt8) (i : Nat) (out : List UInt8) : List (Nat × Nat × AO) := [(1000, 0, .row false (unR t most g out.length)), (1001, 0, .row false (rdR nl b i)), (1002, g, .row (nl0 out.length) (out.map u8))]
theorem un_gl {t : Bool} {most : Nat} {nl : Bool} {b : List UInt8} {i : Nat} {out : List UInt8} : ∀ m cells, AO.row m cells ∈ unI t most nl b i out → AV.gl.glL 1 cells := by
  intro m cells h
  simp only [unI, List.mem_cons, AO.row.injEq, List.not_mem_nil, or_false] at h
  obtain ⟨-, rfl⟩ | ⟨-, rfl⟩ | ⟨-, rfl⟩ := h
  · simp only [unR, AV.gl.glL, AV.gl, int, and_true]
    exact ⟨by omega, by omega, trivial, gl_of_free 1 _ free_fxA⟩
  · simp only [rdR, AV.gl.glL, AV.gl, and_true]
    exact glL_of_free _ _ free_u8
  · exact glL_of_free _ _ free_u8

set_option maxRecDepth 100000 in
theorem inf_plus_h [Tabs Tryd.prog] (t : Bool) (most : Nat) (nl : Bool) (b : List UInt8) (hb : b.length ≤ 1000000) (i : Nat) (hi : i ≤ 8 * b.length) (out : List UInt8) (v n : Nat) (hn : n ≤ 24) (hv : v < 100000) (hin : i + n ≤ 8 * b.length) :
    HCon Tryd.prog n_inflate_unpacker_plus [.op 1000 0 0, int (v : Int), int (n : Int)] (unI t most nl b i out) (.tup [int ((v + numAt b i n : Nat) : Int), int 0]) (unO 0 t most nl b (i + n) out) 40 := by
  refine HCon.of' mix Tryd.func60 rfl Tryd.ntmps60 e_inflate_unpacker_plus r_inflate_unpacker_plus (by simp) (by simp [AV.gl, AV.gl.glL, int]) un_gl ?_
  unfold s_inflate_unpacker_plus
  have hT := huff_Take_h nl b hb i hi n hn hin
  have hlt := numAt_lt (b := b) (i := i) (n := n)
  have hp : 2 ^ n ≤ 16777216 := two_pow_le (n := n) (m := 24) hn
  obtain ⟨x, hx⟩ : ∃ x, x = numAt b i n := ⟨_, rfl⟩
  rw [← hx] at hT hlt ⊢
  repeat (first | refine wA ?_ | refine wB ?_ | refine wC rfl ?_ | refine wD rfl ?_ | refine wE ?_ | refine wF (by omega) ?_ | ((first | refine wG ?_ | refine wH ?_ | refine wI ?_ | refine wJ ?_ | refine wK ?_ | refine wL ?_); simp (disch := omega) only [wP, wZ, undef, seval, if_pos, if_neg, aStore, frz, AV.flat, ↓reduceIte, ne_eq, reduceCtorEq, ByteArray.size, unI, unR]))
  refine goC_h [(1001, 0)] 2000 hT (by simp) (by simp) ?_ ?_ ?_
  iterate 2 (case _ => simp (disch := omega) only [wP, wZ, undef, seval, if_pos, if_neg, aStore, frz, AV.flat, ↓reduceIte, ne_eq, reduceCtorEq, ByteArray.size, rdR])
  repeat (first | refine wA ?_ | refine wB ?_ | refine wC rfl ?_ | refine wD rfl ?_ | refine wE ?_ | refine wF (by omega) ?_ | ((first | refine wG ?_ | refine wH ?_ | refine wI ?_ | refine wJ ?_ | refine wK ?_ | refine wL ?_); simp (disch := omega) only [wP, wZ, undef, seval, if_pos, if_neg, aStore, frz, AV.flat, ↓reduceIte, ne_eq, reduceCtorEq, ByteArray.size, rdR, unO, unR]))

set_option maxRecDepth 100000 in
theorem inf_plus_no [Tabs Tryd.prog] (t : Bool) (most : Nat) (nl : Bool) (b : List UInt8) (hb : b.length ≤ 1000000) (i : Nat) (hi : i ≤ 8 * b.length) (out : List UInt8) (v n : Nat) (hin : ¬ i + n ≤ 8 * b.length) :
    HCon Tryd.prog n_inflate_unpacker_plus [.op 1000 0 0, int (v : Int), int (n : Int)] (unI t most nl b i out) (.tup [int 0, int 2]) [] 40 := by
  refine HCon.of' mix Tryd.func60 rfl Tryd.ntmps60 e_inflate_unpacker_plus r_inflate_unpacker_plus (by simp) (by simp [AV.gl, AV.gl.glL, int]) un_gl ?_
  unfold s_inflate_unpacker_plus
  have hT := huff_Take_no nl b hb i hi (n : Int) (decide_eq_false (by omega))
  repeat (first | refine wA ?_ | refine wB ?_ | refine wC rfl ?_ | refine wD rfl ?_ | refine wE ?_ | refine wF (by omega) ?_ | ((first | refine wG ?_ | refine wH ?_ | refine wI ?_ | refine wJ ?_ | refine wK ?_ | refine wL ?_); simp (disch := omega) only [wP, wZ, undef, seval, if_pos, if_neg, aStore, frz, AV.flat, ↓reduceIte, ne_eq, reduceCtorEq, ByteArray.size, unI, unR]))
  refine goC_h [(1001, 0)] 2000 hT (by simp) (by simp) ?_ ?_ ?_
  iterate 2 (case _ => simp (disch := omega) only [wP, wZ, undef, seval, if_pos, if_neg, aStore, frz, AV.flat, ↓reduceIte, ne_eq, reduceCtorEq, ByteArray.size, rdR])
  repeat (first | refine wA ?_ | refine wB ?_ | refine wC rfl ?_ | refine wD rfl ?_ | refine wE ?_ | refine wF (by omega) ?_ | ((first | refine wG ?_ | refine wH ?_ | refine wI ?_ | refine wJ ?_ | refine wK ?_ | refine wL ?_); simp (disch := omega) only [wP, wZ, undef, seval, if_pos, if_neg, aStore, frz, AV.flat, ↓reduceIte, ne_eq, reduceCtorEq, ByteArray.size, rdR, unO, unR]))

theorem inf_room_h [Tabs Tryd.prog] (t : Bool) (most : Nat) (hm : most ≤ 16777216) (nl : Bool) (b : List UInt8) (i : Nat) (out : List UInt8) (ho : out.length ≤ most) :
    HCon Tryd.prog n_inflate_unpacker_room [.op 1000 0 0] (unI t most nl b i out) (int ((most - out.length : Nat) : Int)) (unO 0 t most nl b i out) 1 := by
  refine HCon.of' mix Tryd.func37 rfl Tryd.ntmps37 e_inflate_unpacker_room r_inflate_unpacker_room (by simp) (by simp [AV.gl, AV.gl.glL, int]) un_gl ?_
  unfold s_inflate_unpacker_room
  have e : (most : Int) - (out.length : Int) = ((most - out.length : Nat) : Int) := by omega
  repeat (first | refine wA ?_ | refine wB ?_ | refine wC rfl ?_ | refine wD rfl ?_ | refine wE ?_ | refine wF (by omega) ?_ | ((first | refine wG ?_ | refine wH ?_ | refine wI ?_ | refine wJ ?_ | refine wK ?_ | refine wL ?_); simp (disch := omega) only [wP, wZ, undef, seval, if_pos, if_neg, aStore, frz, AV.flat, ↓reduceIte, ne_eq, reduceCtorEq, ByteArray.size, unI, unO, unR, e]))

set_option maxRecDepth 100000 in
theorem inf_literal_no [Tabs Tryd.prog] (t : Bool) (most : Nat) (hm : most ≤ 16777216) (nl : Bool) (b : List UInt8) (i : Nat) (out : List UInt8) (ho : out.length ≤ most) (c : UInt8) (hf : most ≤ out.length) :
    HCon Tryd.prog n_inflate_unpacker_literal [.op 1000 0 0, u8 c] (unI t most nl b i out) (int 4) [] 10 := by
  refine HCon.of' mix Tryd.func42 rfl Tryd.ntmps42 e_inflate_unpacker_literal r_inflate_unpacker_literal (by simp) (by simp [AV.gl, AV.gl.glL, u8]) un_gl ?_
  unfold s_inflate_unpacker_literal
  have d : decide (((most - out.length : Nat) : Int) < 1) = true := decide_eq_true (by omega)
  repeat (first | refine wA ?_ | refine wB ?_ | refine wC rfl ?_ | refine wD rfl ?_ | refine wE ?_ | refine wF (by omega) ?_ | ((first | refine wG ?_ | refine wH ?_ | refine wI ?_ | refine wJ ?_ | refine wK ?_ | refine wL ?_); simp (disch := omega) only [wP, wZ, undef, seval, if_pos, if_neg, aStore, frz, AV.flat, ↓reduceIte, ne_eq, reduceCtorEq, ByteArray.size]))
  refine goC_h [(1000, 0), (1001, 0), (1002, 0)] 2000 (inf_room_h t most hm nl b i out ho) (by simp) (by simp) ?_ ?_ ?_
  iterate 2 (case _ => simp (disch := omega) only [wP, wZ, undef, seval, if_pos, if_neg, aStore, frz, AV.flat, ↓reduceIte, ne_eq, reduceCtorEq, ByteArray.size, unI, unR, rdR, ren_fxA])
  repeat (first | refine wA ?_ | refine wB ?_ | refine wC rfl ?_ | refine wD rfl ?_ | refine wE ?_ | refine wF (by omega) ?_ | ((first | refine wG ?_ | refine wH ?_ | refine wI ?_ | refine wJ ?_ | refine wK ?_ | refine wL ?_); simp (disch := omega) only [wP, wZ, undef, seval, if_pos, if_neg, aStore, frz, AV.flat, ↓reduceIte, ne_eq, reduceCtorEq, ByteArray.size, unO, unR, rdR, ren_fxA, d]))

set_option maxRecDepth 100000 in
theorem inf_literal_h [Tabs Tryd.prog] (t : Bool) (most : Nat) (hm : most ≤ 16777216) (nl : Bool) (b : List UInt8) (i : Nat) (out : List UInt8) (hf : out.length < most) (c : UInt8) :
    HCon Tryd.prog n_inflate_unpacker_literal [.op 1000 0 0, u8 c] (unI t most nl b i out) (int 0) (unO 2 t most nl b i (out ++ [c])) 10 := by
  refine HCon.of' mix Tryd.func42 rfl Tryd.ntmps42 e_inflate_unpacker_literal r_inflate_unpacker_literal (by simp) (by simp [AV.gl, AV.gl.glL, u8]) un_gl ?_
  unfold s_inflate_unpacker_literal
  have d : decide (((most - out.length : Nat) : Int) < 1) = false := decide_eq_false (by omega)
  repeat (first | refine wA ?_ | refine wB ?_ | refine wC rfl ?_ | refine wD rfl ?_ | refine wE ?_ | refine wF (by omega) ?_ | ((first | refine wG ?_ | refine wH ?_ | refine wI ?_ | refine wJ ?_ | refine wK ?_ | refine wL ?_); simp (disch := omega) only [wP, wZ, undef, seval, if_pos, if_neg, aStore, frz, AV.flat, ↓reduceIte, ne_eq, reduceCtorEq, ByteArray.size]))
  refine goC_h [(1000, 0), (1001, 0), (1002, 0)] 2000 (inf_room_h t most hm nl b i out (by omega)) (by simp) (by simp) ?_ ?_ ?_
  iterate 2 (case _ => simp (disch := omega) only [wP, wZ, undef, seval, if_pos, if_neg, aStore, frz, AV.flat, ↓reduceIte, ne_eq, reduceCtorEq, ByteArray.size, unI, unR, rdR, ren_fxA])
  repeat (first | refine wA ?_ | refine wB ?_ | refine wC rfl ?_ | refine wD rfl ?_ | refine wE ?_ | refine wF (by omega) ?_ | ((first | refine wG ?_ | refine wH ?_ | refine wI ?_ | refine wJ ?_ | refine wK ?_ | refine wL ?_); simp (disch := omega) only [wP, wZ, undef, seval, if_pos, if_neg, aStore, frz, AV.flat, ↓reduceIte, ne_eq, reduceCtorEq, ByteArray.size, unO, unR, rdR, ren_fxA, d, cells_fxA, nl0_succ]))
end Go.Proofs.YtokdmakljdhjiaaDoor.Aw

namespace Go.Proofs.YtokdmakljdhjiaaDoor.Aw
open Go
set_option linter.unusedSimpArgs false
set_option linter.unusedVariables false

/-- A contract by what is read: the good answer with the objects behind it, or an error. -/
def Ans {α : Type} (P : Program) [Tabs P] (f : Nat) (ins : List AV) (hin : List AO) (r : BR α) (good : α → AV) (hout : α → Nat → List (Nat × Nat × AO)) (bad : Nat → AV) (k : Nat) : Prop :=
  match r with
  | .ok a j => HCon P f ins hin (good a) (hout a j) k
  | .no e => (e ≠ 0 ∧ e ≤ 10) ∧ HCon P f ins hin (bad e) [] k
def okI (v : Nat) : AV := .tup [int (v : Int), int 0]
def noI (e : Nat) : AV := .tup [int 0, int (e : Int)]

theorem inf_plus_a [Tabs Tryd.prog] (t : Bool) (most : Nat) (nl : Bool) (b : List UInt8) (hb : b.length ≤ 1000000) (i : Nat) (hi : i ≤ 8 * b.length) (out : List UInt8) (v n : Nat) (hn : n ≤ 24) (hv : v < 100000) :
    Ans Tryd.prog n_inflate_unpacker_plus [.op 1000 0 0, int (v : Int), int (n : Int)] (unI t most nl b i out) ((plusT v n).run (bitsL b) i) okI (fun _ j => unO 0 t most nl b j out) noI 40 := by
  rw [plusT, run_bnd, run_num hi]
  split
  · exact inf_plus_h t most nl b hb i hi out v n hn hv (by assumption)
  · exact ⟨by omega, inf_plus_no t most nl b hb i hi out v n (by assumption)⟩

set_option maxRecDepth 100000 in
theorem inf_length_a [Tabs Tryd.prog] (t : Bool) (most : Nat) (nl : Bool) (b : List UInt8) (hb : b.length ≤ 1000000) (i : Nat) (hi : i ≤ 8 * b.length) (out : List UInt8) (s : Nat) (hs : s < 1000) :
    Ans Tryd.prog n_inflate_unpacker_length [.op 1000 0 0, int (s : Int)] (unI t most nl b i out) ((lenT s).run (bitsL b) i) okI (fun _ j => unO 0 t most nl b j out) noI 50 := by
  by_cases c1 : 29 ≤ s
  · rw [show lenT s = .err 3 by rw [lenT, if_pos c1]]
    refine ⟨by omega, HCon.of' mix Tryd.func57 rfl Tryd.ntmps57 e_inflate_unpacker_length r_inflate_unpacker_length (by simp) (by simp [AV.gl, AV.gl.glL, int]) un_gl ?_⟩
    unfold s_inflate_unpacker_length
    have d1 : decide ((29 : Int) ≤ (s : Int)) = true := decide_eq_true (by omega)
    repeat (first | refine wA ?_ | refine wB ?_ | refine wC rfl ?_ | refine wD rfl ?_ | refine wE ?_ | refine wF (by omega) ?_ | ((first | refine wG ?_ | refine wH ?_ | refine wI ?_ | refine wJ ?_ | refine wK ?_ | refine wL ?_); simp (disch := omega) only [wP, wZ, undef, seval, if_pos, if_neg, aStore, frz, AV.flat, ↓reduceIte, ne_eq, reduceCtorEq, ByteArray.size, d1, noI]))
  have d1 : decide ((29 : Int) ≤ (s : Int)) = false := decide_eq_false (by omega)
  by_cases c2 : s = 28
  · subst c2
    rw [show lenT 28 = .ret 258 from rfl]
    refine HCon.of' mix Tryd.func57 rfl Tryd.ntmps57 e_inflate_unpacker_length r_inflate_unpacker_length (by simp) (by simp [AV.gl, AV.gl.glL, int]) un_gl ?_
    unfold s_inflate_unpacker_length
    repeat (first | refine wA ?_ | refine wB ?_ | refine wC rfl ?_ | refine wD rfl ?_ | refine wE ?_ | refine wF (by omega) ?_ | ((first | refine wG ?_ | refine wH ?_ | refine wI ?_ | refine wJ ?_ | refine wK ?_ | refine wL ?_); simp (disch := omega) only [wP, wZ, undef, seval, if_pos, if_neg, aStore, frz, AV.flat, ↓reduceIte, ne_eq, reduceCtorEq, ByteArray.size, d1, okI, unI, unR, unO]))
  have d2 : decide ((s : Int) = 28) = false := decide_eq_false (by omega)
  by_cases c3 : s < 8
  · rw [show lenT s = .ret (3 + s) by rw [lenT, if_neg c1, if_neg c2, if_pos c3]]
    refine HCon.of' mix Tryd.func57 rfl Tryd.ntmps57 e_inflate_unpacker_length r_inflate_unpacker_length (by simp) (by simp [AV.gl, AV.gl.glL, int]) un_gl ?_
    unfold s_inflate_unpacker_length
    have d3 : decide ((s : Int) < 8) = true := decide_eq_true (by omega)
    repeat (first | refine wA ?_ | refine wB ?_ | refine wC rfl ?_ | refine wD rfl ?_ | refine wE ?_ | refine wF (by omega) ?_ | ((first | refine wG ?_ | refine wH ?_ | refine wI ?_ | refine wJ ?_ | refine wK ?_ | refine wL ?_); simp (disch := omega) only [wP, wZ, undef, seval, if_pos, if_neg, aStore, frz, AV.flat, ↓reduceIte, ne_eq, reduceCtorEq, ByteArray.size, d1, d2, d3, okI, unI, unR, unO]))
  have d3 : decide ((s : Int) < 8) = false := decide_eq_false (by omega)
  rw [show lenT s = plusT (3 + (4 + s % 4) * 2 ^ (s / 4 - 1)) (s / 4 - 1) by rw [lenT, if_neg c1, if_neg c2, if_neg c3]]
  obtain ⟨k, hk⟩ : ∃ k, k = s / 4 - 1 := ⟨_, rfl⟩
  obtain ⟨m, hm⟩ : ∃ m, m = s % 4 := ⟨_, rfl⟩
  obtain ⟨q, hq⟩ : ∃ q, q = s / 4 := ⟨_, rfl⟩
  have e1 : (q : Int) - 1 = (k : Int) := by omega
  have hk6 : k ≤ 6 := by omega
  have hm4 : m < 4 := by omega
  have hp : 2 ^ k ≤ 64 := two_pow_le (n := k) (m := 6) hk6
  have hz2 : (4 + m) * 2 ^ k ≤ 7 * 64 := Nat.mul_le_mul (by omega) hp
  obtain ⟨p, hpd⟩ : ∃ p, p = 2 ^ k := ⟨_, rfl⟩
  obtain ⟨z, hz⟩ : ∃ z, z = (4 + m) * 2 ^ k := ⟨_, rfl⟩
  have e2 : ((4 : Int) + (m : Int)) * 2 ^ k = (z : Int) := by rw [hz, Int.natCast_mul, Int.natCast_add, Int.natCast_pow]; rfl
  rw [← hk, ← hm, ← hz]
  rw [← hz] at hz2
  have hA := inf_plus_a t most nl b hb i hi out (3 + z) k (by omega) (by omega)
  obtain ⟨r, hr⟩ : ∃ r, r = (plusT (3 + z) k).run (bitsL b) i := ⟨_, rfl⟩
  rw [← hr] at hA ⊢
  cases r with
  | ok a j =>
    refine HCon.of' mix Tryd.func57 rfl Tryd.ntmps57 e_inflate_unpacker_length r_inflate_unpacker_length (by simp) (by simp [AV.gl, AV.gl.glL, int]) un_gl ?_
    unfold s_inflate_unpacker_length
    repeat (first | refine wA ?_ | refine wB ?_ | refine wC rfl ?_ | refine wD rfl ?_ | refine wE ?_ | refine wF (by omega) ?_ | ((first | refine wG ?_ | refine wH ?_ | refine wI ?_ | refine wJ ?_ | refine wK ?_ | refine wL ?_); simp (disch := omega) only [wP, wZ, undef, seval, if_pos, if_neg, aStore, frz, AV.flat, ↓reduceIte, ne_eq, reduceCtorEq, ByteArray.size, d1, d2, d3, ← hq, ← hm, e1, e2]))
    refine goC_h [(1000, 0), (1001, 0), (1002, 0)] 2000 hA (by simp) (by simp) ?_ ?_ ?_
    iterate 2 (case _ => simp (disch := omega) only [wP, wZ, undef, seval, if_pos, if_neg, aStore, frz, AV.flat, ↓reduceIte, ne_eq, reduceCtorEq, ByteArray.size, unI, unR, rdR, ren_fxA])
    repeat (first | refine wA ?_ | refine wB ?_ | refine wC rfl ?_ | refine wD rfl ?_ | refine wE ?_ | refine wF (by omega) ?_ | ((first | refine wG ?_ | refine wH ?_ | refine wI ?_ | refine wJ ?_ | refine wK ?_ | refine wL ?_); simp (disch := omega) only [wP, wZ, undef, seval, if_pos, if_neg, aStore, frz, AV.flat, ↓reduceIte, ne_eq, reduceCtorEq, ByteArray.size, okI, unO, unR, rdR, ren_fxA]))
  | no e =>
    refine ⟨hA.1, HCon.of' mix Tryd.func57 rfl Tryd.ntmps57 e_inflate_unpacker_length r_inflate_unpacker_length (by simp) (by simp [AV.gl, AV.gl.glL, int]) un_gl ?_⟩
    unfold s_inflate_unpacker_length
    repeat (first | refine wA ?_ | refine wB ?_ | refine wC rfl ?_ | refine wD rfl ?_ | refine wE ?_ | refine wF (by omega) ?_ | ((first | refine wG ?_ | refine wH ?_ | refine wI ?_ | refine wJ ?_ | refine wK ?_ | refine wL ?_); simp (disch := omega) only [wP, wZ, undef, seval, if_pos, if_neg, aStore, frz, AV.flat, ↓reduceIte, ne_eq, reduceCtorEq, ByteArray.size, d1, d2, d3, ← hq, ← hm, e1, e2]))
    refine goC_h [(1000, 0), (1001, 0), (1002, 0)] 2000 hA.2 (by simp) (by simp) ?_ ?_ ?_
    iterate 2 (case _ => simp (disch := omega) only [wP, wZ, undef, seval, if_pos, if_neg, aStore, frz, AV.flat, ↓reduceIte, ne_eq, reduceCtorEq, ByteArray.size, unI, unR, rdR, ren_fxA])
    repeat (first | refine wA ?_ | refine wB ?_ | refine wC rfl ?_ | refine wD rfl ?_ | refine wE ?_ | refine wF (by omega) ?_ | ((first | refine wG ?_ | refine wH ?_ | refine wI ?_ | refine wJ ?_ | refine wK ?_ | refine wL ?_); simp (disch := omega) only [wP, wZ, undef, seval, if_pos, if_neg, aStore, frz, AV.flat, ↓reduceIte, ne_eq, reduceCtorEq, ByteArray.size, noI, unO, unR, rdR, ren_fxA]))

set_option maxRecDepth 100000 in
theorem inf_distance_a [Tabs Tryd.prog] (t : Bool) (most : Nat) (nl : Bool) (b : List UInt8) (hb : b.length ≤ 1000000) (i : Nat) (hi : i ≤ 8 * b.length) (out : List UInt8) (s : Nat) (hs : s < 1000) :
    Ans Tryd.prog n_inflate_unpacker_distance [.op 1000 0 0, int (s : Int)] (unI t most nl b i out) ((disT s).run (bitsL b) i) okI (fun _ j => unO 0 t most nl b j out) noI 50 := by
  by_cases c1 : 30 ≤ s
  · rw [show disT s = .err 3 by rw [disT, if_pos c1]]
    refine ⟨by omega, HCon.of' mix Tryd.func58 rfl Tryd.ntmps58 e_inflate_unpacker_distance r_inflate_unpacker_distance (by simp) (by simp [AV.gl, AV.gl.glL, int]) un_gl ?_⟩
    unfold s_inflate_unpacker_distance
    have d1 : decide ((30 : Int) ≤ (s : Int)) = true := decide_eq_true (by omega)
    repeat (first | refine wA ?_ | refine wB ?_ | refine wC rfl ?_ | refine wD rfl ?_ | refine wE ?_ | refine wF (by omega) ?_ | ((first | refine wG ?_ | refine wH ?_ | refine wI ?_ | refine wJ ?_ | refine wK ?_ | refine wL ?_); simp (disch := omega) only [wP, wZ, undef, seval, if_pos, if_neg, aStore, frz, AV.flat, ↓reduceIte, ne_eq, reduceCtorEq, ByteArray.size, d1, noI]))
  have d1 : decide ((30 : Int) ≤ (s : Int)) = false := decide_eq_false (by omega)
  by_cases c3 : s < 4
  · rw [show disT s = .ret (1 + s) by rw [disT, if_neg c1, if_pos c3]]
    refine HCon.of' mix Tryd.func58 rfl Tryd.ntmps58 e_inflate_unpacker_distance r_inflate_unpacker_distance (by simp) (by simp [AV.gl, AV.gl.glL, int]) un_gl ?_
    unfold s_inflate_unpacker_distance
    have d3 : decide ((s : Int) < 4) = true := decide_eq_true (by omega)
    repeat (first | refine wA ?_ | refine wB ?_ | refine wC rfl ?_ | refine wD rfl ?_ | refine wE ?_ | refine wF (by omega) ?_ | ((first | refine wG ?_ | refine wH ?_ | refine wI ?_ | refine wJ ?_ | refine wK ?_ | refine wL ?_); simp (disch := omega) only [wP, wZ, undef, seval, if_pos, if_neg, aStore, frz, AV.flat, ↓reduceIte, ne_eq, reduceCtorEq, ByteArray.size, d1, d3, okI, unI, unR, unO]))
  have d3 : decide ((s : Int) < 4) = false := decide_eq_false (by omega)
  rw [show disT s = plusT (1 + (2 + s % 2) * 2 ^ (s / 2 - 1)) (s / 2 - 1) by rw [disT, if_neg c1, if_neg c3]]
  obtain ⟨k, hk⟩ : ∃ k, k = s / 2 - 1 := ⟨_, rfl⟩
  obtain ⟨m, hm⟩ : ∃ m, m = s % 2 := ⟨_, rfl⟩
  obtain ⟨q, hq⟩ : ∃ q, q = s / 2 := ⟨_, rfl⟩
  have e1 : (q : Int) - 1 = (k : Int) := by omega
  have hk6 : k ≤ 13 := by omega
  have hm4 : m < 2 := by omega
  have hp : 2 ^ k ≤ 8192 := two_pow_le (n := k) (m := 13) hk6
  have hz2 : (2 + m) * 2 ^ k ≤ 3 * 8192 := Nat.mul_le_mul (by omega) hp
  obtain ⟨p, hpd⟩ : ∃ p, p = 2 ^ k := ⟨_, rfl⟩
  obtain ⟨z, hz⟩ : ∃ z, z = (2 + m) * 2 ^ k := ⟨_, rfl⟩
  have e2 : ((2 : Int) + (m : Int)) * 2 ^ k = (z : Int) := by rw [hz, Int.natCast_mul, Int.natCast_add, Int.natCast_pow]; rfl
  rw [← hk, ← hm, ← hz]
  rw [← hz] at hz2
  have hA := inf_plus_a t most nl b hb i hi out (1 + z) k (by omega) (by omega)
  obtain ⟨r, hr⟩ : ∃ r, r = (plusT (1 + z) k).run (bitsL b) i := ⟨_, rfl⟩
  rw [← hr] at hA ⊢
  cases r with
  | ok a j =>
    refine HCon.of' mix Tryd.func58 rfl Tryd.ntmps58 e_inflate_unpacker_distance r_inflate_unpacker_distance (by simp) (by simp [AV.gl, AV.gl.glL, int]) un_gl ?_
    unfold s_inflate_unpacker_distance
    repeat (first | refine wA ?_ | refine wB ?_ | refine wC rfl ?_ | refine wD rfl ?_ | refine wE ?_ | refine wF (by omega) ?_ | ((first | refine wG ?_ | refine wH ?_ | refine wI ?_ | refine wJ ?_ | refine wK ?_ | refine wL ?_); simp (disch := omega) only [wP, wZ, undef, seval, if_pos, if_neg, aStore, frz, AV.flat, ↓reduceIte, ne_eq, reduceCtorEq, ByteArray.size, d1, d3, ← hq, ← hm, e1, e2]))
    refine goC_h [(1000, 0), (1001, 0), (1002, 0)] 2000 hA (by simp) (by simp) ?_ ?_ ?_
    iterate 2 (case _ => simp (disch := omega) only [wP, wZ, undef, seval, if_pos, if_neg, aStore, frz, AV.flat, ↓reduceIte, ne_eq, reduceCtorEq, ByteArray.size, unI, unR, rdR, ren_fxA])
    repeat (first | refine wA ?_ | refine wB ?_ | refine wC rfl ?_ | refine wD rfl ?_ | refine wE ?_ | refine wF (by omega) ?_ | ((first | refine wG ?_ | refine wH ?_ | refine wI ?_ | refine wJ ?_ | refine wK ?_ | refine wL ?_); simp (disch := omega) only [wP, wZ, undef, seval, if_pos, if_neg, aStore, frz, AV.flat, ↓reduceIte, ne_eq, reduceCtorEq, ByteArray.size, okI, unO, unR, rdR, ren_fxA]))
  | no e =>
    refine ⟨hA.1, HCon.of' mix Tryd.func58 rfl Tryd.ntmps58 e_inflate_unpacker_distance r_inflate_unpacker_distance (by simp) (by simp [AV.gl, AV.gl.glL, int]) un_gl ?_⟩
    unfold s_inflate_unpacker_distance
    repeat (first | refine wA ?_ | refine wB ?_ | refine wC rfl ?_ | refine wD rfl ?_ | refine wE ?_ | refine wF (by omega) ?_ | ((first | refine wG ?_ | refine wH ?_ | refine wI ?_ | refine wJ ?_ | refine wK ?_ | refine wL ?_); simp (disch := omega) only [wP, wZ, undef, seval, if_pos, if_neg, aStore, frz, AV.flat, ↓reduceIte, ne_eq, reduceCtorEq, ByteArray.size, d1, d3, ← hq, ← hm, e1, e2]))
    refine goC_h [(1000, 0), (1001, 0), (1002, 0)] 2000 hA.2 (by simp) (by simp) ?_ ?_ ?_
    iterate 2 (case _ => simp (disch := omega) only [wP, wZ, undef, seval, if_pos, if_neg, aStore, frz, AV.flat, ↓reduceIte, ne_eq, reduceCtorEq, ByteArray.size, unI, unR, rdR, ren_fxA])
    repeat (first | refine wA ?_ | refine wB ?_ | refine wC rfl ?_ | refine wD rfl ?_ | refine wE ?_ | refine wF (by omega) ?_ | ((first | refine wG ?_ | refine wH ?_ | refine wI ?_ | refine wJ ?_ | refine wK ?_ | refine wL ?_); simp (disch := omega) only [wP, wZ, undef, seval, if_pos, if_neg, aStore, frz, AV.flat, ↓reduceIte, ne_eq, reduceCtorEq, ByteArray.size, noI, unO, unR, rdR, ren_fxA]))
end Go.Proofs.YtokdmakljdhjiaaDoor.Aw

namespace Go.Proofs.YtokdmakljdhjiaaDoor.Aw
open Go
set_option linter.unusedSimpArgs false
set_option linter.unusedVariables false

/-- The part of the lengths below n. -/
def kn : List Nat → Nat → Nat
  | [], _ => 0
  | x :: r, n => (if x < n then wt x else 0) + kn r n
theorem kn_succ {l : List Nat} {n : Nat} : kn l (n + 1) = kn l n + l.count n * wt n := by
  induction l with
  | nil => simp [kn]
  | cons x l ih =>
    simp only [kn, ih, List.count_cons]
    by_cases e : x = n
    · subst e; simp [Nat.add_mul]; omega
    · by_cases e2 : x < n
      · rw [if_pos (by omega), if_pos e2]; simp [e]; omega
      · rw [if_neg (by omega), if_neg e2]; simp [e]
theorem kn_all {l : List Nat} (h : ∀ x ∈ l, x ≤ 15) : kn l 16 = kraft l := by
  induction l with
  | nil => rfl
  | cons x l ih =>
    have := h x (by simp)
    simp only [kn, kraft, ih fun y hy => h y (by simp [hy])]
    rw [if_pos (by omega)]
theorem kn_zero {l : List Nat} : kn l 0 = 0 := by
  induction l with
  | nil => rfl
  | cons x l ih => simp only [kn, ih]; simp
theorem wt_eq {n : Nat} (h0 : n ≠ 0) (h : n ≤ 15) : wt n = 2 ^ (15 - n) := by
  unfold wt; rw [if_neg h0]
  exact Nat.pow_div h (by omega) (x := 2)
theorem pow_half {n : Nat} (h : n < 15) : 2 ^ (15 - n) = 2 * 2 ^ (15 - (n + 1)) := by
  rw [show 15 - n = (15 - (n + 1)) + 1 by omega, Nat.pow_succ]; omega
theorem kn_fr {l : List Nat} : ∀ {n : Nat}, n ≤ 15 → kn l n = fr l n * 2 ^ (15 - n)
  | 0, _ => by simp [kn_zero, fr]
  | n + 1, h => by
    have ih := kn_fr (l := l) (n := n) (by omega)
    rw [kn_succ, ih]
    by_cases h0 : n = 0
    · subst h0; simp [wt, fr, cn]
    · rw [wt_eq h0 (by omega), pow_half (n := n) (by omega), fr, cn, if_neg h0, ← Nat.add_mul, ← Nat.mul_assoc, Nat.mul_comm (fr l n + l.count n) 2]
/-- The rows up to a length take so much. -/
theorem kn_le {l : List Nat} {n : Nat} (h : ∀ x ∈ l, x ≤ 15) (hn : n ≤ 15) : (fr l n + cn l n) * 2 ^ (15 - n) ≤ kraft l := by
  have mono : ∀ m k, kn l m ≤ kn l (m + k) := fun m k => by
    induction k with
    | zero => exact Nat.le_refl _
    | succ k ih => rw [show m + (k + 1) = m + k + 1 by omega, kn_succ]; omega
  have h1 := mono (n + 1) (15 - n)
  rw [show n + 1 + (15 - n) = 16 by omega, kn_all h, kn_succ, kn_fr hn] at h1
  by_cases h0 : n = 0
  · subst h0; simp [fr, cn]
  · rw [wt_eq h0 hn] at h1
    rw [cn, if_neg h0, Nat.add_mul]; exact h1
theorem kraft_eq {l : List Nat} (h : ∀ x ∈ l, x ≤ 15) : kraft l = fr l 15 + cn l 15 := by
  rw [← kn_all h, kn_succ, kn_fr (Nat.le_refl _), wt_eq (by omega) (Nat.le_refl _), cn, if_neg (by omega)]; simp
/-- A symbol's row is one of its length's. -/
theorem code_in {l : List Nat} {s m : Nat} (hs : s < l.length) (hm : l.getD s 0 = m) (h0 : m ≠ 0) : fr l m ≤ codeOf l s ∧ codeOf l s - fr l m = (l.take s).count m ∧ (l.take s).count m < cn l m := by
  have hc : codeOf l s = fr l m + (l.take s).count m := by unfold codeOf; rw [hm, if_neg h0]
  refine ⟨by omega, by omega, ?_⟩
  rw [cn, if_neg h0]
  have := count_snoc (n := m) hs
  rw [if_pos hm.symm] at this
  have h2 : (l.take (s + 1)).count m ≤ l.count m := List.Sublist.count_le m (List.take_sublist _ _)
  omega
theorem syms_at {l : List Nat} {s m : Nat} (hm : l.getD s 0 = m) (h0 : m ≠ 0) : ∀ {k : Nat}, s < k → k ≤ l.length → (syms l k m).getD ((l.take s).count m) 0 = s
  | 0, h, _ => by omega
  | k + 1, h, hk => by
    rw [syms_succ h0]
    have hlen : (syms l k m).length = (l.take k).count m := by rw [length_syms (by omega), if_neg h0]
    by_cases e : s = k
    · subst e
      rw [if_pos hm]
      simp only [List.getD]
      rw [List.getElem?_append_right (by omega), hlen]; simp
    · have ih := syms_at hm h0 (k := k) (by omega) (by omega)
      split
      · simp only [List.getD] at ih ⊢
        have hlt : (l.take s).count m < (syms l k m).length := by
          rw [hlen]
          have h1 := count_snoc (n := m) (l := l) (k := s) (by omega)
          rw [if_pos hm.symm] at h1
          have h2 : (l.take (s + 1)).count m ≤ (l.take k).count m := by
            have : l.take (s + 1) = (l.take k).take (s + 1) := by rw [List.take_take]; congr 1; omega
            rw [this]; exact List.Sublist.count_le m (List.take_sublist _ _)
          omega
        rw [List.getElem?_append_left hlt]; exact ih
      · exact ih
/-- And each of them is a symbol's. -/
theorem in_code {l : List Nat} {m j : Nat} (h0 : m ≠ 0) (hj : j < cn l m) : (syms l l.length m).getD j 0 < l.length ∧ l.getD ((syms l l.length m).getD j 0) 0 = m ∧ codeOf l ((syms l l.length m).getD j 0) = fr l m + j := by
  have key : ∀ k, k ≤ l.length → ∀ j, j < (syms l k m).length → (syms l k m).getD j 0 < k ∧ l.getD ((syms l k m).getD j 0) 0 = m ∧ (l.take ((syms l k m).getD j 0)).count m = j := by
    intro k
    induction k with
    | zero => intro _ j hj; rw [length_syms (by omega), if_neg h0] at hj; simp at hj
    | succ k ih =>
      intro hk j hj
      have ih := ih (by omega)
      have hlen : (syms l k m).length = (l.take k).count m := by rw [length_syms (by omega), if_neg h0]
      rw [syms_succ h0] at hj ⊢
      split
      · rename_i e
        rw [if_pos e, List.length_append, List.length_singleton] at hj
        by_cases hjl : j < (syms l k m).length
        · have := ih j hjl
          have e2 : (syms l k m ++ [k]).getD j 0 = (syms l k m).getD j 0 := by simp only [List.getD]; rw [List.getElem?_append_left hjl]
          rw [e2]
          exact ⟨by omega, this.2.1, this.2.2⟩
        · have e2 : (syms l k m ++ [k]).getD j 0 = k := by simp only [List.getD]; rw [List.getElem?_append_right (by omega)]; simp [show j - (syms l k m).length = 0 by omega]
          rw [e2]
          exact ⟨by omega, e, by omega⟩
      · rename_i e
        rw [if_neg e] at hj
        have := ih j hj
        exact ⟨by omega, this.2.1, this.2.2⟩
  have h := key l.length (Nat.le_refl _) j (by rw [length_symsF]; exact hj)
  refine ⟨h.1, h.2.1, ?_⟩
  unfold codeOf
  rw [h.2.1, if_neg h0, h.2.2]

theorem code_lt {l : List Nat} (h15 : ∀ x ∈ l, x ≤ 15) (hK : kraft l ≤ 32768) {s m : Nat} (hs : s < l.length) (hm : l.getD s 0 = m) (h0 : m ≠ 0) (hm15 : m ≤ 15) : codeOf l s < 2 ^ m := by
  obtain ⟨h1, h2, h3⟩ := code_in hs hm h0
  have h4 := kn_le h15 hm15
  have h5 : (codeOf l s + 1) * 2 ^ (15 - m) ≤ 2 ^ m * 2 ^ (15 - m) := by
    rw [← Nat.pow_add, show m + (15 - m) = 15 by omega]
    refine Nat.le_trans (Nat.mul_le_mul_right _ ?_) (Nat.le_trans h4 hK)
    omega
  exact Nat.le_of_mul_le_mul_right h5 (Nat.pow_pos (by omega))

end Go.Proofs.YtokdmakljdhjiaaDoor.Aw
