/- Contracts: (*unpacker).plus, room, literal. -/
import Derived.Test.YtokdmakljdhjiaaDoorInfM
namespace Go.Proofs.YtokdmakljdhjiaaDoor.Aw
open Go
set_option linter.unusedSimpArgs false
set_option linter.unusedVariables false

/-- The two codes of a block; those of kind 1, once they are there. -/
def cds (l d : List Nat) : AV := .fp (.agg [.fp (.agg (trR l)) 0, .fp (.agg (trR d)) 0]) 0
def fxA : Bool → AV
  | true => cds fixL fixD
  | false => .sc (.pointer none)
theorem free_cds {l d : List Nat} : (cds l d).free = true := by simp only [cds, AV.free, AV.free.freeL, free_trR, Bool.and_self]
theorem free_fxA {t : Bool} : (fxA t).free = true := by cases t
                                                        · rfl
                                                        · exact free_cds
theorem ren_cds {ρ : Nat → Nat → Nat × Nat} {l d : List Nat} : ren ρ (cds l d) = cds l d := ren_free ρ _ free_cds
theorem ren_fxA {ρ : Nat → Nat → Nat × Nat} {t : Bool} : ren ρ (fxA t) = fxA t := ren_free ρ _ free_fxA
theorem fzo_fxA {id g : Nat} {nl : Bool} {cells : List AV} {t : Bool} : fzo id g nl cells (fxA t) = fxA t := by cases t <;> rfl
theorem cells_fxA {t : Bool} : cellsA (fxA t) = some [fxA t] := by cases t <;> rfl

/-- The cells of an unpacker; what is handed in with it; what it leaves. -/
def unR (t : Bool) (most g n : Nat) : List AV := [.op 1001 0 0, .own 1002 g none 0 n, int (most : Int), fxA t]
def unI (t : Bool) (most : Nat) (nl : Bool) (b : List UInt8) (i : Nat) (out : List UInt8) : List AO := [.row false (unR t most 0 out.length), .row false (rdR nl b i), .row (nl0 out.length) (out.map u8)]
def unO (g : Nat) (t : Bool) (most : Nat) (nl : Bool) (b : List UInt8) (i : Nat) (out : List UInt8) : List (Nat × Nat × AO) := [(1000, 0, .row false (unR t most g out.length)), (1001, 0, .row false (rdR nl b i)), (1002, g, .row (nl0 out.length) (out.map u8))]
theorem un_gl {t : Bool} {most : Nat} {nl : Bool} {b : List UInt8} {i : Nat} {out : List UInt8} : ∀ m cells, AO.row m cells ∈ unI t most nl b i out → AV.gl.glL 1 cells := by
  intro m cells h
  simp only [unI, List.mem_cons, AO.row.injEq, List.not_mem_nil, or_false] at h
  obtain ⟨-, rfl⟩ | ⟨-, rfl⟩ | ⟨-, rfl⟩ := h
  · simp only [unR, AV.gl.glL, AV.gl, int, and_true]
    exact ⟨by omega, by omega, trivial, gl_of_free 1 _ free_fxA⟩
  · simp only [rdR, AV.gl.glL, AV.gl, and_true]
    exact glL_of_free _ _ free_u8
  · exact glL_of_free _ _ free_u8

set_option maxRecDepth 100000 in
theorem inf_plus_h [Tabs Tryd.prog] (t : Bool) (most : Nat) (nl : Bool) (b : List UInt8) (hb : b.length ≤ 1000000) (i : Nat) (hi : i ≤ 8 * b.length) (out : List UInt8) (v n : Nat) (hn : n ≤ 24) (hv : v < 100000) (hin : i + n ≤ 8 * b.length) :
    HCon Tryd.prog n_inflate_unpacker_plus [.op 1000 0 0, int (v : Int), int (n : Int)] (unI t most nl b i out) (.tup [int ((v + numAt b i n : Nat) : Int), int 0]) (unO 0 t most nl b (i + n) out) 40 := by
  refine HCon.of' mix Tryd.func60 rfl Tryd.ntmps60 e_inflate_unpacker_plus r_inflate_unpacker_plus (by simp) (by simp [AV.gl, AV.gl.glL, int]) un_gl ?_
  unfold s_inflate_unpacker_plus
  have hT := huff_Take_h nl b hb i hi n hn hin
  have hlt := numAt_lt (b := b) (i := i) (n := n)
  have hp : 2 ^ n ≤ 16777216 := two_pow_le (n := n) (m := 24) hn
  obtain ⟨x, hx⟩ : ∃ x, x = numAt b i n := ⟨_, rfl⟩
  rw [← hx] at hT hlt ⊢
  repeat (first | refine SWp.seq ?_ | refine SWp.block ?_ | refine SWp.condT rfl ?_ | refine SWp.condF rfl ?_ | refine LoopAt.next ?_ | refine And.intro (by omega) ?_ | ((first | refine SWp.reg ?_ | refine SWp.skip ?_ | refine SWp.exit ?_ | refine SWp.ret ?_ | refine (fun h => h : AOps _ _ _ _ → AOps _ _ _ _) ?_); simp (disch := omega) only [wP, wZ, undef, eq_self, UInt8.reduceToNat, Nat.reduceOr, Nat.reduceAnd, Nat.reduceXor, Nat.reduceDiv, if_pos, if_neg, aStore, frz, AV.flat, ↓reduceIte, ne_eq, reduceCtorEq, Int.reduceToNat, Nat.reduceEqDiff, Nat.reduceAdd, Nat.reduceSub, Nat.reduceMul, Int.reduceAdd, Int.reduceMul, Int.reduceSub, Int.reduceLT, Int.reduceLE, Int.reduceEq, Int.reduceNe, Nat.reduceLeDiff, Nat.reduceLT, Int.reduceNeg, Nat.reducePow, Nat.reduceMod, ByteArray.size, unI, unR]))
  refine goC_h [(1001, 0)] 2000 hT (by simp) (by simp) ?_ ?_ ?_
  iterate 2 (case _ => simp (disch := omega) only [wP, wZ, undef, eq_self, UInt8.reduceToNat, Nat.reduceOr, Nat.reduceAnd, Nat.reduceXor, Nat.reduceDiv, if_pos, if_neg, aStore, frz, AV.flat, ↓reduceIte, ne_eq, reduceCtorEq, Int.reduceToNat, Nat.reduceEqDiff, Nat.reduceAdd, Nat.reduceSub, Nat.reduceMul, Int.reduceAdd, Int.reduceMul, Int.reduceSub, Int.reduceLT, Int.reduceLE, Int.reduceEq, Int.reduceNe, Nat.reduceLeDiff, Nat.reduceLT, Int.reduceNeg, Nat.reducePow, Nat.reduceMod, ByteArray.size, rdR])
  repeat (first | refine SWp.seq ?_ | refine SWp.block ?_ | refine SWp.condT rfl ?_ | refine SWp.condF rfl ?_ | refine LoopAt.next ?_ | refine And.intro (by omega) ?_ | ((first | refine SWp.reg ?_ | refine SWp.skip ?_ | refine SWp.exit ?_ | refine SWp.ret ?_ | refine (fun h => h : AOps _ _ _ _ → AOps _ _ _ _) ?_); simp (disch := omega) only [wP, wZ, undef, eq_self, UInt8.reduceToNat, Nat.reduceOr, Nat.reduceAnd, Nat.reduceXor, Nat.reduceDiv, if_pos, if_neg, aStore, frz, AV.flat, ↓reduceIte, ne_eq, reduceCtorEq, Int.reduceToNat, Nat.reduceEqDiff, Nat.reduceAdd, Nat.reduceSub, Nat.reduceMul, Int.reduceAdd, Int.reduceMul, Int.reduceSub, Int.reduceLT, Int.reduceLE, Int.reduceEq, Int.reduceNe, Nat.reduceLeDiff, Nat.reduceLT, Int.reduceNeg, Nat.reducePow, Nat.reduceMod, ByteArray.size, rdR, unO, unR]))

set_option maxRecDepth 100000 in
theorem inf_plus_no [Tabs Tryd.prog] (t : Bool) (most : Nat) (nl : Bool) (b : List UInt8) (hb : b.length ≤ 1000000) (i : Nat) (hi : i ≤ 8 * b.length) (out : List UInt8) (v n : Nat) (hin : ¬ i + n ≤ 8 * b.length) :
    HCon Tryd.prog n_inflate_unpacker_plus [.op 1000 0 0, int (v : Int), int (n : Int)] (unI t most nl b i out) (.tup [int 0, int 2]) [] 40 := by
  refine HCon.of' mix Tryd.func60 rfl Tryd.ntmps60 e_inflate_unpacker_plus r_inflate_unpacker_plus (by simp) (by simp [AV.gl, AV.gl.glL, int]) un_gl ?_
  unfold s_inflate_unpacker_plus
  have hT := huff_Take_no nl b hb i hi (n : Int) (decide_eq_false (by omega))
  repeat (first | refine SWp.seq ?_ | refine SWp.block ?_ | refine SWp.condT rfl ?_ | refine SWp.condF rfl ?_ | refine LoopAt.next ?_ | refine And.intro (by omega) ?_ | ((first | refine SWp.reg ?_ | refine SWp.skip ?_ | refine SWp.exit ?_ | refine SWp.ret ?_ | refine (fun h => h : AOps _ _ _ _ → AOps _ _ _ _) ?_); simp (disch := omega) only [wP, wZ, undef, eq_self, UInt8.reduceToNat, Nat.reduceOr, Nat.reduceAnd, Nat.reduceXor, Nat.reduceDiv, if_pos, if_neg, aStore, frz, AV.flat, ↓reduceIte, ne_eq, reduceCtorEq, Int.reduceToNat, Nat.reduceEqDiff, Nat.reduceAdd, Nat.reduceSub, Nat.reduceMul, Int.reduceAdd, Int.reduceMul, Int.reduceSub, Int.reduceLT, Int.reduceLE, Int.reduceEq, Int.reduceNe, Nat.reduceLeDiff, Nat.reduceLT, Int.reduceNeg, Nat.reducePow, Nat.reduceMod, ByteArray.size, unI, unR]))
  refine goC_h [(1001, 0)] 2000 hT (by simp) (by simp) ?_ ?_ ?_
  iterate 2 (case _ => simp (disch := omega) only [wP, wZ, undef, eq_self, UInt8.reduceToNat, Nat.reduceOr, Nat.reduceAnd, Nat.reduceXor, Nat.reduceDiv, if_pos, if_neg, aStore, frz, AV.flat, ↓reduceIte, ne_eq, reduceCtorEq, Int.reduceToNat, Nat.reduceEqDiff, Nat.reduceAdd, Nat.reduceSub, Nat.reduceMul, Int.reduceAdd, Int.reduceMul, Int.reduceSub, Int.reduceLT, Int.reduceLE, Int.reduceEq, Int.reduceNe, Nat.reduceLeDiff, Nat.reduceLT, Int.reduceNeg, Nat.reducePow, Nat.reduceMod, ByteArray.size, rdR])
  repeat (first | refine SWp.seq ?_ | refine SWp.block ?_ | refine SWp.condT rfl ?_ | refine SWp.condF rfl ?_ | refine LoopAt.next ?_ | refine And.intro (by omega) ?_ | ((first | refine SWp.reg ?_ | refine SWp.skip ?_ | refine SWp.exit ?_ | refine SWp.ret ?_ | refine (fun h => h : AOps _ _ _ _ → AOps _ _ _ _) ?_); simp (disch := omega) only [wP, wZ, undef, eq_self, UInt8.reduceToNat, Nat.reduceOr, Nat.reduceAnd, Nat.reduceXor, Nat.reduceDiv, if_pos, if_neg, aStore, frz, AV.flat, ↓reduceIte, ne_eq, reduceCtorEq, Int.reduceToNat, Nat.reduceEqDiff, Nat.reduceAdd, Nat.reduceSub, Nat.reduceMul, Int.reduceAdd, Int.reduceMul, Int.reduceSub, Int.reduceLT, Int.reduceLE, Int.reduceEq, Int.reduceNe, Nat.reduceLeDiff, Nat.reduceLT, Int.reduceNeg, Nat.reducePow, Nat.reduceMod, ByteArray.size, rdR, unO, unR]))

theorem inf_room_h [Tabs Tryd.prog] (t : Bool) (most : Nat) (hm : most ≤ 16777216) (nl : Bool) (b : List UInt8) (i : Nat) (out : List UInt8) (ho : out.length ≤ most) :
    HCon Tryd.prog n_inflate_unpacker_room [.op 1000 0 0] (unI t most nl b i out) (int ((most - out.length : Nat) : Int)) (unO 0 t most nl b i out) 1 := by
  refine HCon.of' mix Tryd.func37 rfl Tryd.ntmps37 e_inflate_unpacker_room r_inflate_unpacker_room (by simp) (by simp [AV.gl, AV.gl.glL, int]) un_gl ?_
  unfold s_inflate_unpacker_room
  have e : (most : Int) - (out.length : Int) = ((most - out.length : Nat) : Int) := by omega
  repeat (first | refine SWp.seq ?_ | refine SWp.block ?_ | refine SWp.condT rfl ?_ | refine SWp.condF rfl ?_ | refine LoopAt.next ?_ | refine And.intro (by omega) ?_ | ((first | refine SWp.reg ?_ | refine SWp.skip ?_ | refine SWp.exit ?_ | refine SWp.ret ?_ | refine (fun h => h : AOps _ _ _ _ → AOps _ _ _ _) ?_); simp (disch := omega) only [wP, wZ, undef, eq_self, UInt8.reduceToNat, Nat.reduceOr, Nat.reduceAnd, Nat.reduceXor, Nat.reduceDiv, if_pos, if_neg, aStore, frz, AV.flat, ↓reduceIte, ne_eq, reduceCtorEq, Int.reduceToNat, Nat.reduceEqDiff, Nat.reduceAdd, Nat.reduceSub, Nat.reduceMul, Int.reduceAdd, Int.reduceMul, Int.reduceSub, Int.reduceLT, Int.reduceLE, Int.reduceEq, Int.reduceNe, Nat.reduceLeDiff, Nat.reduceLT, Int.reduceNeg, Nat.reducePow, Nat.reduceMod, ByteArray.size, unI, unO, unR, e]))

set_option maxRecDepth 100000 in
theorem inf_literal_no [Tabs Tryd.prog] (t : Bool) (most : Nat) (hm : most ≤ 16777216) (nl : Bool) (b : List UInt8) (i : Nat) (out : List UInt8) (ho : out.length ≤ most) (c : UInt8) (hf : most ≤ out.length) :
    HCon Tryd.prog n_inflate_unpacker_literal [.op 1000 0 0, u8 c] (unI t most nl b i out) (int 4) [] 10 := by
  refine HCon.of' mix Tryd.func42 rfl Tryd.ntmps42 e_inflate_unpacker_literal r_inflate_unpacker_literal (by simp) (by simp [AV.gl, AV.gl.glL, u8]) un_gl ?_
  unfold s_inflate_unpacker_literal
  have d : decide (((most - out.length : Nat) : Int) < 1) = true := decide_eq_true (by omega)
  repeat (first | refine SWp.seq ?_ | refine SWp.block ?_ | refine SWp.condT rfl ?_ | refine SWp.condF rfl ?_ | refine LoopAt.next ?_ | refine And.intro (by omega) ?_ | ((first | refine SWp.reg ?_ | refine SWp.skip ?_ | refine SWp.exit ?_ | refine SWp.ret ?_ | refine (fun h => h : AOps _ _ _ _ → AOps _ _ _ _) ?_); simp (disch := omega) only [wP, wZ, undef, eq_self, UInt8.reduceToNat, Nat.reduceOr, Nat.reduceAnd, Nat.reduceXor, Nat.reduceDiv, if_pos, if_neg, aStore, frz, AV.flat, ↓reduceIte, ne_eq, reduceCtorEq, Int.reduceToNat, Nat.reduceEqDiff, Nat.reduceAdd, Nat.reduceSub, Nat.reduceMul, Int.reduceAdd, Int.reduceMul, Int.reduceSub, Int.reduceLT, Int.reduceLE, Int.reduceEq, Int.reduceNe, Nat.reduceLeDiff, Nat.reduceLT, Int.reduceNeg, Nat.reducePow, Nat.reduceMod, ByteArray.size]))
  refine goC_h [(1000, 0), (1001, 0), (1002, 0)] 2000 (inf_room_h t most hm nl b i out ho) (by simp) (by simp) ?_ ?_ ?_
  iterate 2 (case _ => simp (disch := omega) only [wP, wZ, undef, eq_self, UInt8.reduceToNat, Nat.reduceOr, Nat.reduceAnd, Nat.reduceXor, Nat.reduceDiv, if_pos, if_neg, aStore, frz, AV.flat, ↓reduceIte, ne_eq, reduceCtorEq, Int.reduceToNat, Nat.reduceEqDiff, Nat.reduceAdd, Nat.reduceSub, Nat.reduceMul, Int.reduceAdd, Int.reduceMul, Int.reduceSub, Int.reduceLT, Int.reduceLE, Int.reduceEq, Int.reduceNe, Nat.reduceLeDiff, Nat.reduceLT, Int.reduceNeg, Nat.reducePow, Nat.reduceMod, ByteArray.size, unI, unR, rdR, ren_fxA])
  repeat (first | refine SWp.seq ?_ | refine SWp.block ?_ | refine SWp.condT rfl ?_ | refine SWp.condF rfl ?_ | refine LoopAt.next ?_ | refine And.intro (by omega) ?_ | ((first | refine SWp.reg ?_ | refine SWp.skip ?_ | refine SWp.exit ?_ | refine SWp.ret ?_ | refine (fun h => h : AOps _ _ _ _ → AOps _ _ _ _) ?_); simp (disch := omega) only [wP, wZ, undef, eq_self, UInt8.reduceToNat, Nat.reduceOr, Nat.reduceAnd, Nat.reduceXor, Nat.reduceDiv, if_pos, if_neg, aStore, frz, AV.flat, ↓reduceIte, ne_eq, reduceCtorEq, Int.reduceToNat, Nat.reduceEqDiff, Nat.reduceAdd, Nat.reduceSub, Nat.reduceMul, Int.reduceAdd, Int.reduceMul, Int.reduceSub, Int.reduceLT, Int.reduceLE, Int.reduceEq, Int.reduceNe, Nat.reduceLeDiff, Nat.reduceLT, Int.reduceNeg, Nat.reducePow, Nat.reduceMod, ByteArray.size, unO, unR, rdR, ren_fxA, d]))

set_option maxRecDepth 100000 in
theorem inf_literal_h [Tabs Tryd.prog] (t : Bool) (most : Nat) (hm : most ≤ 16777216) (nl : Bool) (b : List UInt8) (i : Nat) (out : List UInt8) (hf : out.length < most) (c : UInt8) :
    HCon Tryd.prog n_inflate_unpacker_literal [.op 1000 0 0, u8 c] (unI t most nl b i out) (int 0) (unO 2 t most nl b i (out ++ [c])) 10 := by
  refine HCon.of' mix Tryd.func42 rfl Tryd.ntmps42 e_inflate_unpacker_literal r_inflate_unpacker_literal (by simp) (by simp [AV.gl, AV.gl.glL, u8]) un_gl ?_
  unfold s_inflate_unpacker_literal
  have d : decide (((most - out.length : Nat) : Int) < 1) = false := decide_eq_false (by omega)
  repeat (first | refine SWp.seq ?_ | refine SWp.block ?_ | refine SWp.condT rfl ?_ | refine SWp.condF rfl ?_ | refine LoopAt.next ?_ | refine And.intro (by omega) ?_ | ((first | refine SWp.reg ?_ | refine SWp.skip ?_ | refine SWp.exit ?_ | refine SWp.ret ?_ | refine (fun h => h : AOps _ _ _ _ → AOps _ _ _ _) ?_); simp (disch := omega) only [wP, wZ, undef, eq_self, UInt8.reduceToNat, Nat.reduceOr, Nat.reduceAnd, Nat.reduceXor, Nat.reduceDiv, if_pos, if_neg, aStore, frz, AV.flat, ↓reduceIte, ne_eq, reduceCtorEq, Int.reduceToNat, Nat.reduceEqDiff, Nat.reduceAdd, Nat.reduceSub, Nat.reduceMul, Int.reduceAdd, Int.reduceMul, Int.reduceSub, Int.reduceLT, Int.reduceLE, Int.reduceEq, Int.reduceNe, Nat.reduceLeDiff, Nat.reduceLT, Int.reduceNeg, Nat.reducePow, Nat.reduceMod, ByteArray.size]))
  refine goC_h [(1000, 0), (1001, 0), (1002, 0)] 2000 (inf_room_h t most hm nl b i out (by omega)) (by simp) (by simp) ?_ ?_ ?_
  iterate 2 (case _ => simp (disch := omega) only [wP, wZ, undef, eq_self, UInt8.reduceToNat, Nat.reduceOr, Nat.reduceAnd, Nat.reduceXor, Nat.reduceDiv, if_pos, if_neg, aStore, frz, AV.flat, ↓reduceIte, ne_eq, reduceCtorEq, Int.reduceToNat, Nat.reduceEqDiff, Nat.reduceAdd, Nat.reduceSub, Nat.reduceMul, Int.reduceAdd, Int.reduceMul, Int.reduceSub, Int.reduceLT, Int.reduceLE, Int.reduceEq, Int.reduceNe, Nat.reduceLeDiff, Nat.reduceLT, Int.reduceNeg, Nat.reducePow, Nat.reduceMod, ByteArray.size, unI, unR, rdR, ren_fxA])
  repeat (first | refine SWp.seq ?_ | refine SWp.block ?_ | refine SWp.condT rfl ?_ | refine SWp.condF rfl ?_ | refine LoopAt.next ?_ | refine And.intro (by omega) ?_ | ((first | refine SWp.reg ?_ | refine SWp.skip ?_ | refine SWp.exit ?_ | refine SWp.ret ?_ | refine (fun h => h : AOps _ _ _ _ → AOps _ _ _ _) ?_); simp (disch := omega) only [wP, wZ, undef, eq_self, UInt8.reduceToNat, Nat.reduceOr, Nat.reduceAnd, Nat.reduceXor, Nat.reduceDiv, if_pos, if_neg, aStore, frz, AV.flat, ↓reduceIte, ne_eq, reduceCtorEq, Int.reduceToNat, Nat.reduceEqDiff, Nat.reduceAdd, Nat.reduceSub, Nat.reduceMul, Int.reduceAdd, Int.reduceMul, Int.reduceSub, Int.reduceLT, Int.reduceLE, Int.reduceEq, Int.reduceNe, Nat.reduceLeDiff, Nat.reduceLT, Int.reduceNeg, Nat.reducePow, Nat.reduceMod, ByteArray.size, unO, unR, rdR, ren_fxA, d, cells_fxA, nl0_succ]))
end Go.Proofs.YtokdmakljdhjiaaDoor.Aw
