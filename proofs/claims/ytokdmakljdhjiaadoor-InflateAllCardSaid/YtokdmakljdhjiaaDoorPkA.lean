/- Rows of numbers. -/
import Derived.Test.YtokdmakljdhjiaaDoorAwU
import Derived.Test.YtokdmakljdhjiaaDoorSlim
namespace Go.Proofs.YtokdmakljdhjiaaDoor.Aw
open Go
set_option linter.unusedSimpArgs false
set_option linter.unusedVariables false
set_option linter.defProp false

/-- A number that is no less than nought. -/
def nA (n : Nat) : AV := .sc (.int .i64 (n : Int))
theorem getD_nA {l : List Nat} {i : Nat} (h : i < l.length) : (l.map nA).getD i .junk = .sc (.int .i64 ((l.getD i 0 : Nat) : Int)) := by
  simp [List.getD, List.getElem?_eq_getElem h, nA]
theorem getD_zA {l : List Int} {i : Nat} (h : i < l.length) : (l.map int).getD i .junk = .sc (.int .i64 (l.getD i 0)) := by
  simp [List.getD, List.getElem?_eq_getElem h, int]
theorem free_nA {l : List Nat} : AV.free.freeL (l.map nA) = true := freeL_iff.2 fun x hx => by
  obtain ⟨n, _, rfl⟩ := List.mem_map.1 hx; rfl
theorem free_zA {l : List Int} : AV.free.freeL (l.map int) = true := freeL_iff.2 fun x hx => by
  obtain ⟨n, _, rfl⟩ := List.mem_map.1 hx; rfl
theorem renL_nA {ρ : Nat → Nat → Nat × Nat} {l : List Nat} : ren.renL ρ (l.map nA) = l.map nA := renL_free ρ _ free_nA
theorem renL_zA {ρ : Nat → Nat → Nat × Nat} {l : List Int} : ren.renL ρ (l.map int) = l.map int := renL_free ρ _ free_zA
theorem take_nA {l : List Nat} {n : Nat} : (l.map nA).take n = (l.take n).map nA := by simp
theorem drop_nA {l : List Nat} {n : Nat} : (l.map nA).drop n = (l.drop n).map nA := by simp
theorem take_zA {l : List Int} {n : Nat} : (l.map int).take n = (l.take n).map int := by simp
theorem drop_zA {l : List Int} {n : Nat} : (l.map int).drop n = (l.drop n).map int := by simp
theorem fzoL_nA {id g : Nat} {nl : Bool} {cells : List AV} {l : List Nat} : fzo.fzoL id g nl cells (l.map nA) = l.map nA := fzoL_free _ free_nA
theorem fzoL_zA {id g : Nat} {nl : Bool} {cells : List AV} {l : List Int} : fzo.fzoL id g nl cells (l.map int) = l.map int := fzoL_free _ free_zA
theorem frzL_nA {hp : Hp} : ∀ {l : List Nat}, frz.frzL hp (l.map nA) = l.map nA
  | [] => rfl
  | c :: l => by simp only [List.map_cons, frz.frzL, frzL_nA]; rfl
theorem splice_nA {l : List Nat} {k x : Nat} (h : k < l.length) : (l.take k).map nA ++ (.sc (.int .i64 (x : Int)) :: (l.drop (k + 1)).map nA) = (l.set k x).map nA := by
  rw [List.set_eq_take_append_cons_drop, if_pos h]
  simp [nA]
theorem outOf_nil {st : ASt} : outOf st [] = .tup [] := rfl
def iR := And.intro @outOf_nil <| And.intro (And.intro (And.intro @getD_nA @getD_zA) (And.intro @free_nA @free_zA)) (And.intro (And.intro (And.intro @renL_nA @renL_zA) (And.intro (And.intro @take_nA @drop_nA) (And.intro @take_zA @drop_zA))) (And.intro (And.intro @fzoL_nA @fzoL_zA) @frzL_nA))
def fR := And.intro (And.intro (And.intro @fzo_sc @fzo_w32) (And.intro @fzo_junk @fzo_sl)) (And.intro (And.intro (And.intro @fzo_fp @fzo_agg) (And.intro @fzo_tup @fzo_own)) (And.intro (And.intro (And.intro @fzo_op @fzoL_nil) (And.intro @fzoL_cons @fzoL_u8)) (And.intro @fzoL_32 (And.intro @fzH_at @AO_fzo))))
theorem snocD {α : Type} {l : List α} {k : Nat} {d : α} (h : k < l.length) : l.take (k + 1) = l.take k ++ [l.getD k d] := by
  rw [List.take_succ_eq_append_getElem h]; simp [List.getD, List.getElem?_eq_getElem h]
theorem wrap_u64_id3 {x : Int} (h1 : 0 ≤ x) (h2 : x < 18446744073709551616) : IntKind.u64.wrap x = x := by
  simp only [IntKind.wrap, IntKind.bits, IntKind.signed]
  simp
  omega
theorem two_pow_le {n m : Nat} (h : n ≤ m) : 2 ^ n ≤ 2 ^ m := Nat.pow_le_pow_right (by omega) h
end Go.Proofs.YtokdmakljdhjiaaDoor.Aw

namespace Go.Proofs.YtokdmakljdhjiaaDoor.Aw
open Go
set_option linter.unusedSimpArgs false
set_option linter.unusedVariables false

theorem bytes_Clone_c [Tabs Tryd.prog] (nl : Bool) (l : List UInt8) (hl : l.length ≤ 1000000) (hn : nl = true → l = []) : Con Tryd.prog n_bytes_Clone [.sl nl none (l.map u8)] (.sl nl none (l.map u8)) := by
  refine Con.of' mix Tryd.func20 rfl Tryd.ntmps20 e_bytes_Clone r_bytes_Clone (by simp) (by simp only [AV.free, AV.free.freeL, free_u8, Bool.and_self]) (by simp only [AV.free, free_u8]) ?_
  unfold s_bytes_Clone
  cases nl with
  | true =>
    obtain rfl := hn rfl
    iterate 8 (first | refine wA ?_ | refine wB ?_ | refine wC rfl ?_ | refine wD rfl ?_ | refine wE ?_ | refine wF (by omega) ?_ | ((first | refine wG ?_ | refine wH ?_ | refine wI ?_ | refine wJ ?_ | refine wK ?_ | refine wL ?_); simp (disch := omega) only [wP, wZ, undef, seval, if_pos, if_neg, aStore, frz, AV.flat, ↓reduceIte, ne_eq, reduceCtorEq, ByteArray.size]))
    refine SWp.adopt 2 none (by simp (disch := omega) only [wP, wZ, undef, seval, if_pos, if_neg, aStore, frz, AV.flat, ↓reduceIte, ne_eq, reduceCtorEq, ByteArray.size]) ?_
    repeat (first | refine wA ?_ | refine wB ?_ | refine wC rfl ?_ | refine wD rfl ?_ | refine wE ?_ | refine wF (by omega) ?_ | ((first | refine wG ?_ | refine wH ?_ | refine wI ?_ | refine wJ ?_ | refine wK ?_ | refine wL ?_); simp (disch := omega) only [wP, wZ, undef, seval, if_pos, if_neg, aStore, frz, AV.flat, ↓reduceIte, ne_eq, reduceCtorEq, ByteArray.size]))
  | false =>
    repeat (first | refine wA ?_ | refine wB ?_ | refine wC rfl ?_ | refine wD rfl ?_ | refine wE ?_ | refine wF (by omega) ?_ | ((first | refine wG ?_ | refine wH ?_ | refine wI ?_ | refine wJ ?_ | refine wK ?_ | refine wL ?_); simp (disch := omega) only [wP, wZ, undef, seval, if_pos, if_neg, aStore, frz, AV.flat, ↓reduceIte, ne_eq, reduceCtorEq, ByteArray.size]))

/-- The bits of a byte, of bytes: the lowest first. -/
def bitsB (c : UInt8) : List Nat := (List.range 8).map fun k => c.toNat / 2 ^ k % 2
def bitsL (l : List UInt8) : List Nat := l.flatMap bitsB
def bitAt (l : List UInt8) (i : Nat) : Nat := (l.getD (i / 8) 0).toNat / 2 ^ (i % 8) % 2
theorem length_bitsB {c : UInt8} : (bitsB c).length = 8 := by simp [bitsB]
theorem length_bitsL : ∀ {l : List UInt8}, (bitsL l).length = 8 * l.length
  | [] => rfl
  | c :: l => by show (bitsB c ++ bitsL l).length = _; rw [List.length_append, length_bitsB, length_bitsL, List.length_cons]; omega
theorem bitsL_append {l m : List UInt8} : bitsL (l ++ m) = bitsL l ++ bitsL m := by simp [bitsL]
theorem bitsL_snoc {l : List UInt8} {k : Nat} (h : k < l.length) : bitsL (l.take (k + 1)) = bitsL (l.take k) ++ bitsB (l.getD k 0) := by
  rw [snocD (d := 0) h, bitsL_append]; simp [bitsL]
theorem bitsB_get {c : UInt8} {k : Nat} (h : k < 8) : (bitsB c).getD k 0 = c.toNat / 2 ^ k % 2 := by
  simp [bitsB, List.getD, h]
theorem bitsB_snoc {c : UInt8} {k : Nat} (h : k < 8) : (bitsB c).take (k + 1) = (bitsB c).take k ++ [c.toNat / 2 ^ k % 2] := by
  rw [snocD (d := 0) (by rw [length_bitsB]; exact h), bitsB_get h]
theorem bitsL_get : ∀ {l : List UInt8} {i : Nat}, i < 8 * l.length → (bitsL l).getD i 0 = bitAt l i
  | [], i, h => by simp at h
  | c :: l, i, h => by
    show (bitsB c ++ bitsL l).getD i 0 = _
    by_cases hi : i < 8
    · have e1 : i / 8 = 0 := by omega
      have e2 : i % 8 = i := by omega
      have : (bitsB c ++ bitsL l).getD i 0 = (bitsB c).getD i 0 := by
        simp only [List.getD]; rw [List.getElem?_append_left (by rw [length_bitsB]; exact hi)]
      rw [this, bitsB_get hi, bitAt, e1, e2]; rfl
    · have e1 : i / 8 = (i - 8) / 8 + 1 := by omega
      have e2 : i % 8 = (i - 8) % 8 := by omega
      have : (bitsB c ++ bitsL l).getD i 0 = (bitsL l).getD (i - 8) 0 := by
        simp only [List.getD]; rw [List.getElem?_append_right (by rw [length_bitsB]; omega), length_bitsB]
      rw [this, bitsL_get (by simp only [List.length_cons] at h; omega), bitAt, bitAt, e1, e2]; rfl
theorem bitAt_lt {l : List UInt8} {i : Nat} : bitAt l i < 2 := Nat.mod_lt _ (by omega)
/-- The number of bits, the first one the lowest. -/
def numB : List Nat → Nat
  | [] => 0
  | x :: r => x + 2 * numB r
theorem numB_append {a b : List Nat} : numB (a ++ b) = numB a + 2 ^ a.length * numB b := by
  induction a with
  | nil => simp [numB]
  | cons x a ih => simp only [List.cons_append, numB, ih, List.length_cons, Nat.pow_succ, Nat.mul_add]; rw [Nat.mul_comm (2 ^ a.length) 2, Nat.mul_assoc]; omega
theorem numB_lt {l : List Nat} (h : ∀ x ∈ l, x < 2) : numB l < 2 ^ l.length := by
  induction l with
  | nil => simp [numB]
  | cons x l ih =>
    have h1 := h x (by simp)
    have h2 := ih fun y hy => h y (by simp [hy])
    simp only [numB, List.length_cons, Nat.pow_succ]; omega
theorem bitsL_lt {l : List UInt8} : ∀ x ∈ bitsL l, x < 2 := by
  intro x hx
  simp only [bitsL, bitsB, List.mem_flatMap, List.mem_map] at hx
  obtain ⟨_, _, _, _, rfl⟩ := hx
  exact Nat.mod_lt _ (by omega)

/-- The cells of a reader. -/
def rdR (nl : Bool) (b : List UInt8) (i : Nat) : List AV := [.sl nl none (b.map u8), .sc (.int .i64 (i : Int))]
theorem rd_gl {nl : Bool} {b : List UInt8} {i : Nat} : ∀ n cells, AO.row n cells ∈ [AO.row false (rdR nl b i)] → AV.gl.glL 1 cells := by
  intro n cells h
  simp only [List.mem_singleton, AO.row.injEq] at h
  obtain ⟨-, rfl⟩ := h
  simp only [rdR, AV.gl.glL, AV.gl, and_true]
  exact glL_of_free _ _ free_u8

theorem huff_NewReader_h [Tabs Tryd.prog] (nl : Bool) (b : List UInt8) (hl : b.length ≤ 1000000) (hn : nl = true → b = []) :
    HCon Tryd.prog n_huff_NewReader [.sl nl none (b.map u8)] [] (.op 6 1 0) [(6, 1, .row false (rdR nl b 0))] 2 := by
  refine HCon.of' mix Tryd.func9 rfl Tryd.ntmps9 e_huff_NewReader r_huff_NewReader (by simp) (by simp only [AV.gl.glL, AV.gl, and_true]; exact glL_of_free _ _ free_u8) (by simp) ?_
  unfold s_huff_NewReader
  repeat (first | refine wA ?_ | refine wB ?_ | refine wC rfl ?_ | refine wD rfl ?_ | refine wE ?_ | refine wF (by omega) ?_ | ((first | refine wG ?_ | refine wH ?_ | refine wI ?_ | refine wJ ?_ | refine wK ?_ | refine wL ?_); simp (disch := omega) only [wP, wZ, undef, seval, if_pos, if_neg, aStore, frz, AV.flat, ↓reduceIte, ne_eq, reduceCtorEq, ByteArray.size]))
  refine goC_p _ (.inl ⟨by simp only [AV.free, AV.free.freeL, free_u8, Bool.and_self], bytes_Clone_c nl b hl hn⟩) ?_
  repeat (first | refine wA ?_ | refine wB ?_ | refine wC rfl ?_ | refine wD rfl ?_ | refine wE ?_ | refine wF (by omega) ?_ | ((first | refine wG ?_ | refine wH ?_ | refine wI ?_ | refine wJ ?_ | refine wK ?_ | refine wL ?_); simp (disch := omega) only [wP, wZ, undef, seval, if_pos, if_neg, aStore, frz, AV.flat, ↓reduceIte, ne_eq, reduceCtorEq, ByteArray.size, rdR]))

theorem huff_At_h [Tabs Tryd.prog] (nl : Bool) (b : List UInt8) (i : Nat) :
    HCon Tryd.prog n_huff_Reader_At [.op 1000 0 0] [.row false (rdR nl b i)] (int (i : Int)) [(1000, 0, .row false (rdR nl b i))] 1 := by
  refine HCon.of' mix Tryd.func11 rfl Tryd.ntmps11 e_huff_Reader_At r_huff_Reader_At (by simp) (by simp [AV.gl, AV.gl.glL]) rd_gl ?_
  unfold s_huff_Reader_At
  repeat (first | refine wA ?_ | refine wB ?_ | refine wC rfl ?_ | refine wD rfl ?_ | refine wE ?_ | refine wF (by omega) ?_ | ((first | refine wG ?_ | refine wH ?_ | refine wI ?_ | refine wJ ?_ | refine wK ?_ | refine wL ?_); simp (disch := omega) only [wP, wZ, undef, seval, if_pos, if_neg, aStore, frz, AV.flat, ↓reduceIte, ne_eq, reduceCtorEq, ByteArray.size, rdR]))

theorem huff_left_h [Tabs Tryd.prog] (nl : Bool) (b : List UInt8) (hl : b.length ≤ 1000000) (i : Nat) (hi : i ≤ 8 * b.length) :
    HCon Tryd.prog n_huff_Reader_left [.op 1000 0 0] [.row false (rdR nl b i)] (int ((8 * b.length - i : Nat) : Int)) [(1000, 0, .row false (rdR nl b i))] 1 := by
  refine HCon.of' mix Tryd.func33 rfl Tryd.ntmps33 e_huff_Reader_left r_huff_Reader_left (by simp) (by simp [AV.gl, AV.gl.glL]) rd_gl ?_
  unfold s_huff_Reader_left
  have e : (b.length : Int) * 8 - (i : Int) = ((8 * b.length - i : Nat) : Int) := by omega
  repeat (first | refine wA ?_ | refine wB ?_ | refine wC rfl ?_ | refine wD rfl ?_ | refine wE ?_ | refine wF (by omega) ?_ | ((first | refine wG ?_ | refine wH ?_ | refine wI ?_ | refine wJ ?_ | refine wK ?_ | refine wL ?_); simp (disch := omega) only [wP, wZ, undef, seval, if_pos, if_neg, aStore, frz, AV.flat, ↓reduceIte, ne_eq, reduceCtorEq, ByteArray.size, rdR, e]))

set_option maxRecDepth 100000 in
theorem huff_bit_h [Tabs Tryd.prog] (nl : Bool) (b : List UInt8) (hl : b.length ≤ 1000000) (i : Nat) (hi : i < 8 * b.length) :
    HCon Tryd.prog n_huff_Reader_bit [.op 1000 0 0] [.row false (rdR nl b i)] (.sc (.int .i64 ((bitAt b i : Nat) : Int))) [(1000, 0, .row false (rdR nl b (i + 1)))] 1 := by
  refine HCon.of' mix Tryd.func34 rfl Tryd.ntmps34 e_huff_Reader_bit r_huff_Reader_bit (by simp) (by simp [AV.gl, AV.gl.glL]) rd_gl ?_
  unfold s_huff_Reader_bit
  have h8 : i / 8 < b.length := by omega
  have hm : i % 8 < 64 := by omega
  obtain ⟨c, hc⟩ : ∃ c, c = b.getD (i / 8) 0 := ⟨_, rfl⟩
  obtain ⟨x, hx⟩ : ∃ x, x = c.toNat / 2 ^ (i % 8) := ⟨_, rfl⟩
  have hb : bitAt b i = x % 2 := by rw [bitAt, ← hc, ← hx]
  have hcl := c.toNat_lt
  have hxl : x < 256 := by rw [hx]; exact Nat.lt_of_le_of_lt (Nat.div_le_self _ _) hcl
  repeat (first | refine wA ?_ | refine wB ?_ | refine wC rfl ?_ | refine wD rfl ?_ | refine wE ?_ | refine wF (by omega) ?_ | ((first | refine wG ?_ | refine wH ?_ | refine wI ?_ | refine wJ ?_ | refine wK ?_ | refine wL ?_); simp (disch := omega) only [wP, wZ, undef, seval, if_pos, if_neg, aStore, frz, AV.flat, ↓reduceIte, ne_eq, reduceCtorEq, ByteArray.size, rdR, ← hc, ← hx, hb]))

/-- What Take answers. -/
def okTake (len i : Nat) (n : Int) : Bool := decide (0 ≤ n ∧ n ≤ 24 ∧ n ≤ ((8 * len - i : Nat) : Int))
def numAt (b : List UInt8) (i n : Nat) : Nat := numB ((List.range n).map fun k => bitAt b (i + k))
theorem numAt_succ {b : List UInt8} {i n : Nat} : numAt b i (n + 1) = numAt b i n + 2 ^ n * bitAt b (i + n) := by
  unfold numAt; rw [List.range_succ, List.map_append, numB_append]; simp [numB]
theorem numAt_lt {b : List UInt8} {i n : Nat} : numAt b i n < 2 ^ n := by
  have := numB_lt (l := (List.range n).map fun k => bitAt b (i + k)) (by intro x hx; obtain ⟨k, _, rfl⟩ := List.mem_map.1 hx; exact bitAt_lt)
  simpa [numAt] using this

set_option maxRecDepth 100000 in
theorem huff_Take_no [Tabs Tryd.prog] (nl : Bool) (b : List UInt8) (hl : b.length ≤ 1000000) (i : Nat) (hi : i ≤ 8 * b.length) (n : Int) (hn : okTake b.length i n = false) :
    HCon Tryd.prog n_huff_Reader_Take [.op 1000 0 0, int n] [.row false (rdR nl b i)] (.tup [int 0, boo false]) [(1000, 0, .row false (rdR nl b i))] 30 := by
  refine HCon.of' mix Tryd.func21 rfl Tryd.ntmps21 e_huff_Reader_Take r_huff_Reader_Take (by simp) (by simp [AV.gl, AV.gl.glL, int]) rd_gl ?_
  unfold s_huff_Reader_Take
  have hn' := of_decide_eq_false hn
  by_cases c1 : n < 0
  · have d1 := decide_eq_true c1
    repeat (first | refine wA ?_ | refine wB ?_ | refine wC rfl ?_ | refine wD rfl ?_ | refine wE ?_ | refine wF (by omega) ?_ | ((first | refine wG ?_ | refine wH ?_ | refine wI ?_ | refine wJ ?_ | refine wK ?_ | refine wL ?_); simp (disch := omega) only [wP, wZ, undef, seval, if_pos, if_neg, aStore, frz, AV.flat, ↓reduceIte, ne_eq, reduceCtorEq, ByteArray.size, d1]))
  have d1 := decide_eq_false c1
  by_cases c2 : 24 < n
  · have d2 := decide_eq_true c2
    repeat (first | refine wA ?_ | refine wB ?_ | refine wC rfl ?_ | refine wD rfl ?_ | refine wE ?_ | refine wF (by omega) ?_ | ((first | refine wG ?_ | refine wH ?_ | refine wI ?_ | refine wJ ?_ | refine wK ?_ | refine wL ?_); simp (disch := omega) only [wP, wZ, undef, seval, if_pos, if_neg, aStore, frz, AV.flat, ↓reduceIte, ne_eq, reduceCtorEq, ByteArray.size, d1, d2]))
  have d2 := decide_eq_false c2
  have d3 : decide (((8 * b.length - i : Nat) : Int) < n) = true := decide_eq_true (by omega)
  repeat (first | refine wA ?_ | refine wB ?_ | refine wC rfl ?_ | refine wD rfl ?_ | refine wE ?_ | refine wF (by omega) ?_ | ((first | refine wG ?_ | refine wH ?_ | refine wI ?_ | refine wJ ?_ | refine wK ?_ | refine wL ?_); simp (disch := omega) only [wP, wZ, undef, seval, if_pos, if_neg, aStore, frz, AV.flat, ↓reduceIte, ne_eq, reduceCtorEq, ByteArray.size, d1, d2]))
  refine goC_h [(1000, 0)] 2000 (huff_left_h nl b hl i hi) (by simp) (by simp) ?_ ?_ ?_
  iterate 2 (case _ => simp (disch := omega) only [wP, wZ, undef, seval, if_pos, if_neg, aStore, frz, AV.flat, ↓reduceIte, ne_eq, reduceCtorEq, ByteArray.size, rdR])
  repeat (first | refine wA ?_ | refine wB ?_ | refine wC rfl ?_ | refine wD rfl ?_ | refine wE ?_ | refine wF (by omega) ?_ | ((first | refine wG ?_ | refine wH ?_ | refine wI ?_ | refine wJ ?_ | refine wK ?_ | refine wL ?_); simp (disch := omega) only [wP, wZ, undef, seval, if_pos, if_neg, aStore, frz, AV.flat, ↓reduceIte, ne_eq, reduceCtorEq, ByteArray.size, d3, rdR, iR]))

set_option maxRecDepth 100000 in
theorem huff_Take_h [Tabs Tryd.prog] (nl : Bool) (b : List UInt8) (hl : b.length ≤ 1000000) (i : Nat) (hi : i ≤ 8 * b.length) (n : Nat) (hn : n ≤ 24) (hn2 : i + n ≤ 8 * b.length) :
    HCon Tryd.prog n_huff_Reader_Take [.op 1000 0 0, int (n : Int)] [.row false (rdR nl b i)] (.tup [int (numAt b i n : Nat), boo true]) [(1000, 0, .row false (rdR nl b (i + n)))] 30 := by
  refine HCon.of' mix Tryd.func21 rfl Tryd.ntmps21 e_huff_Reader_Take r_huff_Reader_Take (by simp) (by simp [AV.gl, AV.gl.glL, int]) rd_gl ?_
  unfold s_huff_Reader_Take
  have d1 : decide ((n : Int) < 0) = false := decide_eq_false (by omega)
  have d2 : decide (24 < (n : Int)) = false := decide_eq_false (by omega)
  have d3 : decide (((8 * b.length - i : Nat) : Int) < (n : Int)) = false := decide_eq_false (by omega)
  repeat (first | refine wA ?_ | refine wB ?_ | refine wC rfl ?_ | refine wD rfl ?_ | refine wE ?_ | refine wF (by omega) ?_ | ((first | refine wG ?_ | refine wH ?_ | refine wI ?_ | refine wJ ?_ | refine wK ?_ | refine wL ?_); simp (disch := omega) only [wP, wZ, undef, seval, if_pos, if_neg, aStore, frz, AV.flat, ↓reduceIte, ne_eq, reduceCtorEq, ByteArray.size, d1, d2]))
  refine goC_h [(1000, 0)] 2000 (huff_left_h nl b hl i hi) (by simp) (by simp) ?_ ?_ ?_
  iterate 2 (case _ => simp (disch := omega) only [wP, wZ, undef, seval, if_pos, if_neg, aStore, frz, AV.flat, ↓reduceIte, ne_eq, reduceCtorEq, ByteArray.size, rdR])
  repeat (first | refine wA ?_ | refine wB ?_ | refine wC rfl ?_ | refine wD rfl ?_ | refine wE ?_ | refine wF (by omega) ?_ | ((first | refine wG ?_ | refine wH ?_ | refine wI ?_ | refine wJ ?_ | refine wK ?_ | refine wL ?_); simp (disch := omega) only [wP, wZ, undef, seval, if_pos, if_neg, aStore, frz, AV.flat, ↓reduceIte, ne_eq, reduceCtorEq, ByteArray.size, d3, rdR]))
  refine SWp.loop (α := Nat) (fun k => mk 32 (2 + k) [(0, .op 1000 0 0), (1, int n), (6, int (numAt b i k : Nat)), (20, int n), (21, int k)] [(1000, 0, .row false (rdR nl b (i + k)))])
    (fun k => k ≤ n) (fun k => n - k) 0 (Nat.zero_le _) (le_mk rfl ?_ ?_ ?_) ?_
  · simp only; omega
  iterate 2 (case _ => simp (disch := omega) only [wP, wZ, undef, seval, if_pos, if_neg, aStore, frz, AV.flat, ↓reduceIte, ne_eq, reduceCtorEq, ByteArray.size, numAt, List.range_zero, numB, rdR])
  rintro k hk -
  repeat (first | refine wA ?_ | refine wB ?_ | refine wC rfl ?_ | refine wD rfl ?_ | refine wE ?_ | refine wF (by omega) ?_ | ((first | refine wG ?_ | refine wH ?_ | refine wI ?_ | refine wJ ?_ | refine wK ?_ | refine wL ?_); simp (disch := omega) only [wP, wZ, undef, seval, if_pos, if_neg, aStore, frz, AV.flat, ↓reduceIte, ne_eq, reduceCtorEq, ByteArray.size]))
  refine SWp.cond rfl (fun h => ?_) (fun h => ?_)
  · simp only [decide_eq_true_eq] at h
    have hkn : k < n := by omega
    have hs := numAt_succ (b := b) (i := i) (n := k)
    have hlt := numAt_lt (b := b) (i := i) (n := k)
    have hbl := bitAt_lt (l := b) (i := i + k)
    have hp : 2 ^ k ≤ 8388608 := two_pow_le (show k ≤ 23 by omega)
    obtain ⟨x, hx⟩ : ∃ x, x = bitAt b (i + k) := ⟨_, rfl⟩
    obtain ⟨y, hy⟩ : ∃ y, y = numAt b i k := ⟨_, rfl⟩
    have hbit := huff_bit_h nl b hl (i + k) (by omega)
    rw [← hx] at hbit hs hbl
    rw [← hy] at hs hlt
    rw [← hy]
    obtain ⟨z, hz⟩ : ∃ z, z = x * 2 ^ k := ⟨_, rfl⟩
    have hor : y ||| z = numAt b i (k + 1) := by
      rw [hs, hz, Nat.mul_comm, Nat.or_comm, ← Nat.two_pow_add_eq_or_of_lt hlt, Nat.add_comm]
    have hzl : z ≤ 8388608 := by
      obtain rfl | rfl : x = 0 ∨ x = 1 := by omega
      · omega
      · omega
    have hyl : y < 8388608 := by omega
    repeat (first | refine wA ?_ | refine wB ?_ | refine wC rfl ?_ | refine wD rfl ?_ | refine wE ?_ | refine wF (by omega) ?_ | ((first | refine wG ?_ | refine wH ?_ | refine wI ?_ | refine wJ ?_ | refine wK ?_ | refine wL ?_); simp (disch := omega) only [wP, wZ, undef, seval, if_pos, if_neg, aStore, frz, AV.flat, ↓reduceIte, ne_eq, reduceCtorEq, ByteArray.size, rdR]))
    refine goC_h [(1000, 0)] 2000 hbit (by simp) (by simp) ?_ ?_ ?_
    iterate 2 (case _ => simp (disch := omega) only [wP, wZ, undef, seval, if_pos, if_neg, aStore, frz, AV.flat, ↓reduceIte, ne_eq, reduceCtorEq, ByteArray.size, rdR])
    repeat (first | refine wA ?_ | refine wB ?_ | refine wC rfl ?_ | refine wD rfl ?_ | refine wE ?_ | refine wF (by omega) ?_ | ((first | refine wG ?_ | refine wH ?_ | refine wI ?_ | refine wJ ?_ | refine wK ?_ | refine wL ?_); simp (disch := omega) only [wP, wZ, undef, seval, if_pos, if_neg, aStore, frz, AV.flat, ↓reduceIte, ne_eq, reduceCtorEq, ByteArray.size, rdR, ← hz, hor]))
    refine At.of (k + 1) (by omega) (by omega) rfl rfl ?_ ?_ ?_
    · simp only; omega
    iterate 2 (case _ => simp (disch := omega) only [wP, wZ, undef, seval, if_pos, if_neg, aStore, frz, AV.flat, ↓reduceIte, ne_eq, reduceCtorEq, ByteArray.size, rdR, Int.add_assoc])
  · simp only [decide_eq_false_iff_not] at h
    obtain rfl : k = n := by omega
    repeat (first | refine wA ?_ | refine wB ?_ | refine wC rfl ?_ | refine wD rfl ?_ | refine wE ?_ | refine wF (by omega) ?_ | ((first | refine wG ?_ | refine wH ?_ | refine wI ?_ | refine wJ ?_ | refine wK ?_ | refine wL ?_); simp (disch := omega) only [wP, wZ, undef, seval, if_pos, if_neg, aStore, frz, AV.flat, ↓reduceIte, ne_eq, reduceCtorEq, ByteArray.size, rdR]))
    omega

theorem huff_Align_h [Tabs Tryd.prog] (nl : Bool) (b : List UInt8) (hl : b.length ≤ 1000000) (i : Nat) (hi : i ≤ 8 * b.length) :
    HCon Tryd.prog n_huff_Reader_Align [.op 1000 0 0] [.row false (rdR nl b i)] (.tup []) [(1000, 0, .row false (rdR nl b ((i + 7) / 8 * 8)))] 1 := by
  refine HCon.of' mix Tryd.func35 rfl Tryd.ntmps35 e_huff_Reader_Align r_huff_Reader_Align (by simp) (by simp [AV.gl, AV.gl.glL]) rd_gl ?_
  unfold s_huff_Reader_Align
  obtain ⟨m, hm⟩ : ∃ m, m = i + 7 := ⟨_, rfl⟩
  have e : (i : Int) + 8 - 1 = (m : Int) := by omega
  rw [← hm]
  repeat (first | refine wA ?_ | refine wB ?_ | refine wC rfl ?_ | refine wD rfl ?_ | refine wE ?_ | refine wF (by omega) ?_ | ((first | refine wG ?_ | refine wH ?_ | refine wI ?_ | refine wJ ?_ | refine wK ?_ | refine wL ?_); simp (disch := omega) only [wP, wZ, undef, seval, if_pos, if_neg, aStore, frz, AV.flat, ↓reduceIte, ne_eq, reduceCtorEq, ByteArray.size, rdR, e]))
  refine ⟨rfl, ?_⟩
  rw [Int.natCast_mul]; rfl

/-- Does Bytes answer true? -/
def okBytes (len i : Nat) (n : Int) : Bool := decide (0 ≤ n ∧ n ≤ ((len - (i + 7) / 8 : Nat) : Int))
set_option maxRecDepth 100000 in
theorem huff_Bytes_no [Tabs Tryd.prog] (nl : Bool) (b : List UInt8) (hl : b.length ≤ 1000000) (i : Nat) (hi : i ≤ 8 * b.length) (n : Int) (hn : okBytes b.length i n = false) :
    HCon Tryd.prog n_huff_Reader_Bytes [.op 1000 0 0, int n] [.row false (rdR nl b i)] (.tup [.sc (.slice none 0 0), boo false]) [(1000, 0, .row false (rdR nl b ((i + 7) / 8 * 8)))] 10 := by
  refine HCon.of' mix Tryd.func36 rfl Tryd.ntmps36 e_huff_Reader_Bytes r_huff_Reader_Bytes (by simp) (by simp [AV.gl, AV.gl.glL, int]) rd_gl ?_
  unfold s_huff_Reader_Bytes
  have hn' := of_decide_eq_false hn
  obtain ⟨j, hj⟩ : ∃ j, j = (i + 7) / 8 := ⟨_, rfl⟩
  rw [← hj] at hn' ⊢
  repeat (first | refine wA ?_ | refine wB ?_ | refine wC rfl ?_ | refine wD rfl ?_ | refine wE ?_ | refine wF (by omega) ?_ | ((first | refine wG ?_ | refine wH ?_ | refine wI ?_ | refine wJ ?_ | refine wK ?_ | refine wL ?_); simp (disch := omega) only [wP, wZ, undef, seval, if_pos, if_neg, aStore, frz, AV.flat, ↓reduceIte, ne_eq, reduceCtorEq, ByteArray.size]))
  refine goC_h [(1000, 0)] 2000 (huff_Align_h nl b hl i hi) (by simp) (by simp) ?_ ?_ ?_
  iterate 2 (case _ => simp (disch := omega) only [wP, wZ, undef, seval, if_pos, if_neg, aStore, frz, AV.flat, ↓reduceIte, ne_eq, reduceCtorEq, ByteArray.size, rdR])
  rw [← hj]
  by_cases c1 : n < 0
  · have d1 := decide_eq_true c1
    repeat (first | refine wA ?_ | refine wB ?_ | refine wC rfl ?_ | refine wD rfl ?_ | refine wE ?_ | refine wF (by omega) ?_ | ((first | refine wG ?_ | refine wH ?_ | refine wI ?_ | refine wJ ?_ | refine wK ?_ | refine wL ?_); simp (disch := omega) only [wP, wZ, undef, seval, if_pos, if_neg, aStore, frz, AV.flat, ↓reduceIte, ne_eq, reduceCtorEq, ByteArray.size, d1, rdR]))
  have d1 := decide_eq_false c1
  have d3 : decide (((8 * b.length - j * 8 : Nat) : Int) / 8 < n) = true := decide_eq_true (by omega)
  have d3' : decide ((((8 * b.length - j * 8) / 8 : Nat) : Int) < n) = true := decide_eq_true (by omega)
  repeat (first | refine wA ?_ | refine wB ?_ | refine wC rfl ?_ | refine wD rfl ?_ | refine wE ?_ | refine wF (by omega) ?_ | ((first | refine wG ?_ | refine wH ?_ | refine wI ?_ | refine wJ ?_ | refine wK ?_ | refine wL ?_); simp (disch := omega) only [wP, wZ, undef, seval, if_pos, if_neg, aStore, frz, AV.flat, ↓reduceIte, ne_eq, reduceCtorEq, ByteArray.size, d1, rdR]))
  refine goC_h [(1000, 0)] 3000 (huff_left_h nl b hl (j * 8) (by omega)) (by simp) (by simp) ?_ ?_ ?_
  iterate 2 (case _ => simp (disch := omega) only [wP, wZ, undef, seval, if_pos, if_neg, aStore, frz, AV.flat, ↓reduceIte, ne_eq, reduceCtorEq, ByteArray.size, rdR])
  repeat (first | refine wA ?_ | refine wB ?_ | refine wC rfl ?_ | refine wD rfl ?_ | refine wE ?_ | refine wF (by omega) ?_ | ((first | refine wG ?_ | refine wH ?_ | refine wI ?_ | refine wJ ?_ | refine wK ?_ | refine wL ?_); simp (disch := omega) only [wP, wZ, undef, seval, if_pos, if_neg, aStore, frz, AV.flat, ↓reduceIte, ne_eq, reduceCtorEq, ByteArray.size, d3', rdR]))

set_option maxRecDepth 100000 in
theorem huff_Bytes_h [Tabs Tryd.prog] (nl : Bool) (b : List UInt8) (hl : b.length ≤ 1000000) (hnl : nl = true → b = []) (i : Nat) (hi : i ≤ 8 * b.length) (j : Nat) (hj : j = (i + 7) / 8) (n : Nat) (hn : n + j ≤ b.length) :
    HCon Tryd.prog n_huff_Reader_Bytes [.op 1000 0 0, int (n : Int)] [.row false (rdR nl b i)] (.tup [.sl nl none (((b.drop j).take n).map u8), boo true]) [(1000, 0, .row false (rdR nl b (8 * (j + n))))] 10 := by
  refine HCon.of' mix Tryd.func36 rfl Tryd.ntmps36 e_huff_Reader_Bytes r_huff_Reader_Bytes (by simp) (by simp [AV.gl, AV.gl.glL, int]) rd_gl ?_
  unfold s_huff_Reader_Bytes
  repeat (first | refine wA ?_ | refine wB ?_ | refine wC rfl ?_ | refine wD rfl ?_ | refine wE ?_ | refine wF (by omega) ?_ | ((first | refine wG ?_ | refine wH ?_ | refine wI ?_ | refine wJ ?_ | refine wK ?_ | refine wL ?_); simp (disch := omega) only [wP, wZ, undef, seval, if_pos, if_neg, aStore, frz, AV.flat, ↓reduceIte, ne_eq, reduceCtorEq, ByteArray.size]))
  refine goC_h [(1000, 0)] 2000 (huff_Align_h nl b hl i hi) (by simp) (by simp) ?_ ?_ ?_
  iterate 2 (case _ => simp (disch := omega) only [wP, wZ, undef, seval, if_pos, if_neg, aStore, frz, AV.flat, ↓reduceIte, ne_eq, reduceCtorEq, ByteArray.size, rdR])
  rw [← hj]
  have d1 : decide ((n : Int) < 0) = false := decide_eq_false (by omega)
  have d3 : decide ((((8 * b.length - j * 8) / 8 : Nat) : Int) < (n : Int)) = false := decide_eq_false (by omega)
  have hnl' : nl = true → (b.drop j).take n = [] := fun h => by rw [hnl h]; simp
  have e2 : j * 8 / 8 = j := by omega
  have hl2 : ((b.drop j).take n).length ≤ 1000000 := by rw [List.length_take, List.length_drop]; omega
  have hdt : (b.take (j + n)).drop j = (b.drop j).take n := by rw [List.drop_take]; congr 1; omega
  have e3 : 8 * (j + n) = j * 8 + n * 8 := by omega
  rw [e3]
  repeat (first | refine wA ?_ | refine wB ?_ | refine wC rfl ?_ | refine wD rfl ?_ | refine wE ?_ | refine wF (by omega) ?_ | ((first | refine wG ?_ | refine wH ?_ | refine wI ?_ | refine wJ ?_ | refine wK ?_ | refine wL ?_); simp (disch := omega) only [wP, wZ, undef, seval, if_pos, if_neg, aStore, frz, AV.flat, ↓reduceIte, ne_eq, reduceCtorEq, ByteArray.size, d1, rdR]))
  refine goC_h [(1000, 0)] 3000 (huff_left_h nl b hl (j * 8) (by omega)) (by simp) (by simp) ?_ ?_ ?_
  iterate 2 (case _ => simp (disch := omega) only [wP, wZ, undef, seval, if_pos, if_neg, aStore, frz, AV.flat, ↓reduceIte, ne_eq, reduceCtorEq, ByteArray.size, rdR])
  repeat (first | refine wA ?_ | refine wB ?_ | refine wC rfl ?_ | refine wD rfl ?_ | refine wE ?_ | refine wF (by omega) ?_ | ((first | refine wG ?_ | refine wH ?_ | refine wI ?_ | refine wJ ?_ | refine wK ?_ | refine wL ?_); simp (disch := omega) only [wP, wZ, undef, seval, if_pos, if_neg, aStore, frz, AV.flat, ↓reduceIte, ne_eq, reduceCtorEq, ByteArray.size, d3, rdR, e2, hdt]))
  refine goC_p _ (.inl ⟨by simp only [AV.free, AV.free.freeL, free_u8, Bool.and_self], bytes_Clone_c nl _ hl2 hnl'⟩) ?_
  repeat (first | refine wA ?_ | refine wB ?_ | refine wC rfl ?_ | refine wD rfl ?_ | refine wE ?_ | refine wF (by omega) ?_ | ((first | refine wG ?_ | refine wH ?_ | refine wI ?_ | refine wJ ?_ | refine wK ?_ | refine wL ?_); simp (disch := omega) only [wP, wZ, undef, seval, if_pos, if_neg, aStore, frz, AV.flat, ↓reduceIte, ne_eq, reduceCtorEq, ByteArray.size, rdR]))
  rw [Int.natCast_mul n 8]; rfl

set_option maxRecDepth 100000 in
theorem ref_Bits_c [Tabs Tryd.prog] (nl : Bool) (b : List UInt8) (hl : b.length ≤ 1000000) : Con Tryd.prog n_drayageref03_Bits [.sl nl none (b.map u8)] (.sl (nl0 b.length) none ((bitsL b).map nA)) := by
  refine Con.of' mix Tryd.func12 rfl Tryd.ntmps12 e_drayageref03_Bits r_drayageref03_Bits (by simp) (by simp only [AV.free, AV.free.freeL, free_u8, Bool.and_self]) (by simp only [AV.free, free_nA]) ?_
  unfold s_drayageref03_Bits
  repeat (first | refine wA ?_ | refine wB ?_ | refine wC rfl ?_ | refine wD rfl ?_ | refine wE ?_ | refine wF (by omega) ?_ | ((first | refine wG ?_ | refine wH ?_ | refine wI ?_ | refine wJ ?_ | refine wK ?_ | refine wL ?_); simp (disch := omega) only [wP, wZ, undef, seval, if_pos, if_neg, aStore, frz, AV.flat, ↓reduceIte, ne_eq, reduceCtorEq, ByteArray.size]))
  refine SWp.adopt 3 none (by simp (disch := omega) only [wP, wZ, undef, seval, if_pos, if_neg, aStore, frz, AV.flat, ↓reduceIte, ne_eq, reduceCtorEq, ByteArray.size]) ?_
  refine SWp.loop (α := Nat × Nat × Nat) (fun x => mk 30 x.2.2 [(0, .sl nl none (b.map u8)), (3, .own 3 x.2.1 none 0 (8 * x.1)), (4, int x.1)] [(3, x.2.1, .row (nl0 x.1) ((bitsL (b.take x.1)).map nA))])
    (fun x => x.1 ≤ b.length) (fun x => b.length - x.1) (0, 0, 1) (Nat.zero_le _) (le_mk rfl ?_ ?_ ?_) ?_
  · exact Nat.le_refl _
  iterate 2 (case _ => simp (disch := omega) only [wP, wZ, undef, seval, if_pos, if_neg, aStore, frz, AV.flat, ↓reduceIte, ne_eq, reduceCtorEq, ByteArray.size, nl0_zero, List.take_zero, bitsL, List.flatMap_nil])
  rintro ⟨k, g, c⟩ hk -
  simp only at hk
  have hlk : (bitsL (b.take k)).length = 8 * k := by rw [length_bitsL, List.length_take]; omega
  repeat (first | refine wA ?_ | refine wB ?_ | refine wC rfl ?_ | refine wD rfl ?_ | refine wE ?_ | refine wF (by omega) ?_ | ((first | refine wG ?_ | refine wH ?_ | refine wI ?_ | refine wJ ?_ | refine wK ?_ | refine wL ?_); simp (disch := omega) only [wP, wZ, undef, seval, if_pos, if_neg, aStore, frz, AV.flat, ↓reduceIte, ne_eq, reduceCtorEq, ByteArray.size]))
  refine SWp.cond rfl (fun h => ?_) (fun h => ?_)
  · simp only [decide_eq_true_eq] at h
    have hk8 : k < b.length := by omega
    have hs := bitsL_snoc hk8
    obtain ⟨y, hy⟩ : ∃ y, y = b.getD k 0 := ⟨_, rfl⟩
    rw [← hy] at hs
    have hyl := y.toNat_lt
    have hn8 : nl0 (8 * k) = nl0 k := by cases k <;> rfl
    repeat (first | refine wA ?_ | refine wB ?_ | refine wC rfl ?_ | refine wD rfl ?_ | refine wE ?_ | refine wF (by omega) ?_ | ((first | refine wG ?_ | refine wH ?_ | refine wI ?_ | refine wJ ?_ | refine wK ?_ | refine wL ?_); simp (disch := omega) only [wP, wZ, undef, seval, if_pos, if_neg, aStore, frz, AV.flat, ↓reduceIte, ne_eq, reduceCtorEq, ByteArray.size, ← hy]))
    refine SWp.loop (α := Nat × Nat × Nat × Nat) (fun x => mk 30 x.2.2.1 [(0, .sl nl none (b.map u8)), (3, .own 3 x.2.1 none 0 (8 * k + x.1)), (4, int k), (5, int (x.2.2.2 : Nat)), (6, int x.1)] [(3, x.2.1, .row (nl0 (8 * k + x.1)) ((bitsL (b.take k)).map nA ++ ((bitsB y).take x.1).map nA))])
      (fun x => x.1 ≤ 8 ∧ x.2.2.2 = y.toNat / 2 ^ x.1) (fun x => 8 - x.1) (0, g, c, y.toNat) ⟨Nat.zero_le _, by simp⟩ (le_mk rfl ?_ ?_ ?_) ?_
    · exact Nat.le_refl _
    iterate 2 (case _ => simp (disch := omega) only [wP, wZ, undef, seval, if_pos, if_neg, aStore, frz, AV.flat, ↓reduceIte, ne_eq, reduceCtorEq, ByteArray.size, hn8])
    rintro ⟨j, g, c, v⟩ ⟨hj, hv⟩ -
    simp only at hj hv
    have hlj : ((bitsB y).take j).length = j := by rw [List.length_take, length_bitsB]; omega
    have hvl : v < 256 := by rw [hv]; exact Nat.lt_of_le_of_lt (Nat.div_le_self _ _) hyl
    repeat (first | refine wA ?_ | refine wB ?_ | refine wC rfl ?_ | refine wD rfl ?_ | refine wE ?_ | refine wF (by omega) ?_ | ((first | refine wG ?_ | refine wH ?_ | refine wI ?_ | refine wJ ?_ | refine wK ?_ | refine wL ?_); simp (disch := omega) only [wP, wZ, undef, seval, if_pos, if_neg, aStore, frz, AV.flat, ↓reduceIte, ne_eq, reduceCtorEq, ByteArray.size]))
    refine SWp.cond rfl (fun h => ?_) (fun h => ?_)
    · simp only [decide_eq_true_eq] at h
      have hj8 : j < 8 := by omega
      have hsb := bitsB_snoc (c := y) hj8
      rw [← hv] at hsb
      repeat (first | refine wA ?_ | refine wB ?_ | refine wC rfl ?_ | refine wD rfl ?_ | refine wE ?_ | refine wF (by omega) ?_ | ((first | refine wG ?_ | refine wH ?_ | refine wI ?_ | refine wJ ?_ | refine wK ?_ | refine wL ?_); simp (disch := omega) only [wP, wZ, undef, seval, if_pos, if_neg, aStore, frz, AV.flat, ↓reduceIte, ne_eq, reduceCtorEq, ByteArray.size, hlk, hlj, iR]))
      refine At.of (j + 1, c, c + 1, v / 2) ⟨by simp only; omega, by simp only; rw [hv, Nat.div_div_eq_div_mul, Nat.pow_succ]⟩ (by simp only; omega) rfl rfl (Nat.le_refl _) ?_ ?_
      · simp (disch := omega) only [wP, wZ, undef, seval, if_pos, if_neg, aStore, frz, AV.flat, ↓reduceIte, ne_eq, reduceCtorEq, ByteArray.size]
        omega
      · simp (disch := omega) only [wP, wZ, undef, seval, if_pos, if_neg, aStore, frz, AV.flat, ↓reduceIte, ne_eq, reduceCtorEq, ByteArray.size, hsb, nl0_succ, nA]
        exact (nl0_pos (by omega)).symm
    · simp only [decide_eq_false_iff_not] at h
      obtain rfl : j = 8 := by omega
      have ht : (bitsB y).take 8 = bitsB y := List.take_of_length_le (by rw [length_bitsB]; exact Nat.le_refl _)
      repeat (first | refine wA ?_ | refine wB ?_ | refine wC rfl ?_ | refine wD rfl ?_ | refine wE ?_ | refine wF (by omega) ?_ | ((first | refine wG ?_ | refine wH ?_ | refine wI ?_ | refine wJ ?_ | refine wK ?_ | refine wL ?_); simp (disch := omega) only [wP, wZ, undef, seval, if_pos, if_neg, aStore, frz, AV.flat, ↓reduceIte, ne_eq, reduceCtorEq, ByteArray.size]))
      refine At.of (k + 1, g, c) (by simp only; omega) (by simp only; omega) rfl rfl (Nat.le_refl _) ?_ ?_
      · simp (disch := omega) only [wP, wZ, undef, seval, if_pos, if_neg, aStore, frz, AV.flat, ↓reduceIte, ne_eq, reduceCtorEq, ByteArray.size]
        omega
      · simp (disch := omega) only [wP, wZ, undef, seval, if_pos, if_neg, aStore, frz, AV.flat, ↓reduceIte, ne_eq, reduceCtorEq, ByteArray.size, hs, ht, nl0_succ]
  · simp only [decide_eq_false_iff_not] at h
    obtain rfl : k = b.length := by omega
    have hlb : (bitsL b).length = 8 * b.length := length_bitsL
    repeat (first | refine wA ?_ | refine wB ?_ | refine wC rfl ?_ | refine wD rfl ?_ | refine wE ?_ | refine wF (by omega) ?_ | ((first | refine wG ?_ | refine wH ?_ | refine wI ?_ | refine wJ ?_ | refine wK ?_ | refine wL ?_); simp (disch := omega) only [wP, wZ, undef, seval, if_pos, if_neg, aStore, frz, AV.flat, ↓reduceIte, ne_eq, reduceCtorEq, ByteArray.size, List.take_length, hlb, iR]))

theorem numB_split {l : List Nat} {k : Nat} (h : k < l.length) : numB (l.drop k) = l.getD k 0 + 2 * numB (l.drop (k + 1)) := by
  rw [List.drop_eq_getElem_cons h]; simp [numB, List.getD, List.getElem?_eq_getElem h]

set_option maxRecDepth 100000 in
theorem ref_Number_c [Tabs Tryd.prog] (nl : Bool) (l : List Nat) (hl : l.length ≤ 24) (h2 : ∀ x ∈ l, x < 2) : Con Tryd.prog n_drayageref03_Number [.sl nl none (l.map nA)] (int (numB l : Nat)) := by
  refine Con.of' mix Tryd.func26 rfl Tryd.ntmps26 e_drayageref03_Number r_drayageref03_Number (by simp) (by simp only [AV.free, AV.free.freeL, free_nA, Bool.and_self]) rfl ?_
  unfold s_drayageref03_Number
  repeat (first | refine wA ?_ | refine wB ?_ | refine wC rfl ?_ | refine wD rfl ?_ | refine wE ?_ | refine wF (by omega) ?_ | ((first | refine wG ?_ | refine wH ?_ | refine wI ?_ | refine wJ ?_ | refine wK ?_ | refine wL ?_); simp (disch := omega) only [wP, wZ, undef, seval, if_pos, if_neg, aStore, frz, AV.flat, ↓reduceIte, ne_eq, reduceCtorEq, ByteArray.size]))
  refine SWp.loop (α := Nat) (fun j => mk 20 0 [(0, .sl nl none (l.map nA)), (3, int (numB (l.drop (l.length - j)) : Nat)), (4, int ((l.length : Int) - 1 - j))] [])
    (fun j => j ≤ l.length) (fun j => l.length - j) 0 (Nat.zero_le _) (le_mk rfl ?_ ?_ ?_) ?_
  · exact Nat.le_refl _
  iterate 2 (case _ => simp (disch := omega) only [wP, wZ, undef, seval, if_pos, if_neg, aStore, frz, AV.flat, ↓reduceIte, ne_eq, reduceCtorEq, ByteArray.size, List.drop_length, numB])
  rintro j hj -
  repeat (first | refine wA ?_ | refine wB ?_ | refine wC rfl ?_ | refine wD rfl ?_ | refine wE ?_ | refine wF (by omega) ?_ | ((first | refine wG ?_ | refine wH ?_ | refine wI ?_ | refine wJ ?_ | refine wK ?_ | refine wL ?_); simp (disch := omega) only [wP, wZ, undef, seval, if_pos, if_neg, aStore, frz, AV.flat, ↓reduceIte, ne_eq, reduceCtorEq, ByteArray.size]))
  refine SWp.cond rfl (fun h => ?_) (fun h => ?_)
  · simp only [decide_eq_true_eq] at h
    have hjl : j < l.length := by omega
    obtain ⟨k, hk⟩ : ∃ k, k = l.length - (j + 1) := ⟨_, rfl⟩
    have hk1 : l.length - j = k + 1 := by omega
    have hkl : k < l.length := by omega
    have hi : (l.length : Int) - 1 - (j : Int) = (k : Int) := by omega
    have hs := numB_split hkl
    have hx2 : l.getD k 0 < 2 := by
      have : l.getD k 0 = l[k] := by simp [List.getD, List.getElem?_eq_getElem hkl]
      rw [this]; exact h2 _ (List.getElem_mem hkl)
    have hlt := numB_lt (l := l.drop (k + 1)) fun x hx => h2 x (List.mem_of_mem_drop hx)
    have hpow : 2 ^ (l.drop (k + 1)).length ≤ 16777216 := two_pow_le (n := (l.drop (k + 1)).length) (m := 24) (by rw [List.length_drop]; omega)
    obtain ⟨x, hx⟩ : ∃ x, x = l.getD k 0 := ⟨_, rfl⟩
    obtain ⟨y, hy⟩ : ∃ y, y = numB (l.drop (k + 1)) := ⟨_, rfl⟩
    rw [← hx] at hs hx2
    rw [← hy] at hs hlt
    have hyl : y < 16777216 := by omega
    repeat (first | refine wA ?_ | refine wB ?_ | refine wC rfl ?_ | refine wD rfl ?_ | refine wE ?_ | refine wF (by omega) ?_ | ((first | refine wG ?_ | refine wH ?_ | refine wI ?_ | refine wJ ?_ | refine wK ?_ | refine wL ?_); simp (disch := omega) only [wP, wZ, undef, seval, if_pos, if_neg, aStore, frz, AV.flat, ↓reduceIte, ne_eq, reduceCtorEq, ByteArray.size, hi, iR, hk1, ← hx, ← hy]))
    refine At.of (j + 1) (by omega) (by omega) rfl rfl (Nat.le_refl _) ?_ ?_
    · simp (disch := omega) only [wP, wZ, undef, seval, if_pos, if_neg, aStore, frz, AV.flat, ↓reduceIte, ne_eq, reduceCtorEq, ByteArray.size, ← hk, hs]
      omega
    · simp (disch := omega) only [wP, wZ, undef, seval, if_pos, if_neg, aStore, frz, AV.flat, ↓reduceIte, ne_eq, reduceCtorEq, ByteArray.size]
  · simp only [decide_eq_false_iff_not] at h
    obtain rfl : j = l.length := by omega
    repeat (first | refine wA ?_ | refine wB ?_ | refine wC rfl ?_ | refine wD rfl ?_ | refine wE ?_ | refine wF (by omega) ?_ | ((first | refine wG ?_ | refine wH ?_ | refine wI ?_ | refine wJ ?_ | refine wK ?_ | refine wL ?_); simp (disch := omega) only [wP, wZ, undef, seval, if_pos, if_neg, aStore, frz, AV.flat, ↓reduceIte, ne_eq, reduceCtorEq, ByteArray.size, Nat.sub_self, List.drop_zero]))
end Go.Proofs.YtokdmakljdhjiaaDoor.Aw

namespace Go.Proofs.YtokdmakljdhjiaaDoor.Aw
open Go
set_option linter.unusedSimpArgs false
set_option linter.unusedVariables false

def rowB (v n : Nat) : List Nat := (List.range n).map fun k => v / 2 ^ (n - 1 - k) % 2
theorem length_rowB {v n : Nat} : (rowB v n).length = n := by simp [rowB]
theorem rowB_snoc {v n k : Nat} (h : k < n) : (rowB v n).take (k + 1) = (rowB v n).take k ++ [v / 2 ^ (n - 1 - k) % 2] := by
  rw [snocD (d := 0) (by rw [length_rowB]; exact h)]; simp [rowB, List.getD, h]

end Go.Proofs.YtokdmakljdhjiaaDoor.Aw
