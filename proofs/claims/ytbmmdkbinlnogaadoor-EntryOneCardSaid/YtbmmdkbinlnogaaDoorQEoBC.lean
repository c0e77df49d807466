/- Parts of the proofs of Eo. -/
import Derived.Test.YtbmmdkbinlnogaaDoorQEoBB
namespace Go.Proofs.YtbmmdkbinlnogaaDoor.Aw
open Go
set_option linter.unusedSimpArgs false
set_option linter.unusedVariables false
def w32 (x : UInt32) : AV := .sc (.int .u32 (x.toNat : Int))
theorem w32_inj {a b : UInt32} : (w32 a = w32 b) = (a = b) := by
  apply propext
  constructor
  · intro h
    simp only [w32, AV.sc.injEq, Value.int.injEq, true_and] at h
    exact UInt32.toNat_inj.1 (by omega)
  · rintro rfl; rfl
theorem wrap_u32 (n : Int) : IntKind.u32.wrap n = n % 4294967296 := by simp [IntKind.wrap, IntKind.bits, IntKind.signed]
theorem w32_of {n : Int} {x : UInt32} (h : n = (x.toNat : Int)) : AV.sc (.int .u32 n) = w32 x := by rw [h]; rfl
theorem w32_lit {n : Nat} (h : n < 4294967296) : AV.sc (.int .u32 (no_index (@OfNat.ofNat Int n instOfNat))) = w32 (UInt32.ofNat n) := by
  refine w32_of ?_
  rw [UInt32.toNat_ofNat']
  show (n : Int) = _
  omega
theorem bv32 (a : UInt32) : BitVec.ofInt 32 (a.toNat : Int) = a.toBitVec := by
  apply BitVec.eq_of_toNat_eq
  have := a.toNat_lt
  simp only [BitVec.toNat_ofInt, UInt32.toNat_toBitVec]
  omega
theorem w32_add {a b : UInt32} : aBin .add (w32 a) (w32 b) = (True, w32 (a + b)) := by
  simp only [w32, aBin, aInt, Prod.mk.injEq, true_and]
  refine w32_of ?_
  rw [wrap_u32, UInt32.toNat_add]; omega
theorem w32_sub {a b : UInt32} : aBin .sub (w32 a) (w32 b) = (True, w32 (a - b)) := by
  simp only [w32, aBin, aInt, Prod.mk.injEq, true_and]
  refine w32_of ?_
  have := a.toNat_lt
  have := b.toNat_lt
  rw [wrap_u32, UInt32.toNat_sub]; omega
theorem w32_xor {a b : UInt32} : aBin .xor (w32 a) (w32 b) = (True, w32 (a ^^^ b)) := by
  simp only [w32, aBin, aInt, Prod.mk.injEq, true_and]
  refine w32_of ?_
  have := (a ^^^ b).toNat_lt
  rw [wrap_u32]
  show (((BitVec.ofInt 32 (a.toNat : Int) ^^^ BitVec.ofInt 32 (b.toNat : Int)).toNat : Nat) : Int) % 4294967296 = _
  rw [bv32, bv32]
  show (((a ^^^ b).toNat : Nat) : Int) % 4294967296 = _
  omega
theorem w32_and {a b : UInt32} : aBin .and (w32 a) (w32 b) = (True, w32 (a &&& b)) := by
  simp only [w32, aBin, aInt, Prod.mk.injEq, true_and]
  refine w32_of ?_
  have := (a &&& b).toNat_lt
  rw [wrap_u32]
  show (((BitVec.ofInt 32 (a.toNat : Int) &&& BitVec.ofInt 32 (b.toNat : Int)).toNat : Nat) : Int) % 4294967296 = _
  rw [bv32, bv32]
  show (((a &&& b).toNat : Nat) : Int) % 4294967296 = _
  omega
theorem w32_or {a b : UInt32} : aBin .or (w32 a) (w32 b) = (True, w32 (a ||| b)) := by
  simp only [w32, aBin, aInt, Prod.mk.injEq, true_and]
  refine w32_of ?_
  have := (a ||| b).toNat_lt
  rw [wrap_u32]
  show (((BitVec.ofInt 32 (a.toNat : Int) ||| BitVec.ofInt 32 (b.toNat : Int)).toNat : Nat) : Int) % 4294967296 = _
  rw [bv32, bv32]
  show (((a ||| b).toNat : Nat) : Int) % 4294967296 = _
  omega
theorem w32_not {a : UInt32} : aUn .xor (w32 a) = (True, w32 (~~~a)) := by
  simp only [w32, aUn, Prod.mk.injEq, true_and]
  refine w32_of ?_
  have := a.toNat_lt
  have h := (~~~a).toNat_lt
  rw [wrap_u32]
  show (((BitVec.ofInt 32 (4294967295 : Int) ^^^ BitVec.ofInt 32 (a.toNat : Int)).toNat : Nat) : Int) % 4294967296 = _
  rw [bv32]
  have e : BitVec.ofInt 32 (4294967295 : Int) = BitVec.allOnes 32 := by decide
  rw [e, BitVec.allOnes_xor]
  show (((~~~a).toNat : Nat) : Int) % 4294967296 = _
  omega
theorem w32_eql {a b : UInt32} : aBin .eql (w32 a) (w32 b) = (True, boo (decide (a = b))) := by
  simp only [w32, aBin, aInt, Prod.mk.injEq, true_and]
  congr 1
  apply decide_eq_decide.2
  rw [← UInt32.toNat_inj]; omega
theorem w32_neq {a b : UInt32} : aBin .neq (w32 a) (w32 b) = (True, boo (!decide (a = b))) := by
  simp only [w32, aBin, aInt, Prod.mk.injEq, true_and]
  congr 2
  apply decide_eq_decide.2
  rw [← UInt32.toNat_inj]; omega
theorem w32_shr {a : UInt32} {k : IntKind} {n : Nat} : aBin .shr (w32 a) (.sc (.int k (n : Int))) = (True, w32 (UInt32.ofNat (a.toNat / 2 ^ min n 32))) := by
  simp only [w32, aBin, aInt, Prod.mk.injEq]
  refine ⟨by simp, ?_⟩
  refine w32_of ?_
  have := a.toNat_lt
  have h : a.toNat / 2 ^ min n 32 ≤ a.toNat := Nat.div_le_self _ _
  rw [UInt32.toNat_ofNat', Nat.mod_eq_of_lt (by omega), Int.toNat_natCast]
  show ((a.toNat : Int)).fdiv (2 ^ min n 32) = _
  have hp : (0 : Int) ≤ 2 ^ min n 32 := Int.le_of_lt (Int.pow_pos (by omega))
  rw [Int.fdiv_eq_ediv_of_nonneg _ hp]
  push_cast; rfl
theorem w32_shl {a : UInt32} {k : IntKind} {n : Nat} : aBin .shl (w32 a) (.sc (.int k (n : Int))) = (True, w32 (UInt32.ofNat (a.toNat * 2 ^ min n 32))) := by
  simp only [w32, aBin, aInt, Prod.mk.injEq]
  refine ⟨by simp, ?_⟩
  refine w32_of ?_
  rw [UInt32.toNat_ofNat', wrap_u32, Int.toNat_natCast]
  show (((a.toNat : Int)) * 2 ^ min n 32) % 4294967296 = _
  have : ((a.toNat : Int)) * 2 ^ min n 32 = ((a.toNat * 2 ^ min n 32 : Nat) : Int) := by push_cast; rfl
  rw [this]; omega
theorem w32_quo {a b : UInt32} (h : b ≠ 0) : aBin .quo (w32 a) (w32 b) = (True, w32 (a / b)) := by
  simp only [w32, aBin, aInt, Prod.mk.injEq]
  have hb : ¬ ((b.toNat : Int) = 0) := fun e => h (UInt32.toNat_inj.1 (by show b.toNat = 0; omega))
  refine ⟨by simpa using hb, w32_of ?_⟩
  have := a.toNat_lt
  have h' : a.toNat / b.toNat ≤ a.toNat := Nat.div_le_self _ _
  rw [wrap_u32, UInt32.toNat_div, Int.tdiv_eq_ediv_of_nonneg (by omega)]
  have : ((a.toNat : Int)) / (b.toNat : Int) = ((a.toNat / b.toNat : Nat) : Int) := by push_cast; rfl
  rw [this]
  generalize a.toNat / b.toNat = q at h' ⊢
  omega
theorem w32_rem {a b : UInt32} (h : b ≠ 0) : aBin .rem (w32 a) (w32 b) = (True, w32 (a % b)) := by
  simp only [w32, aBin, aInt, Prod.mk.injEq]
  have hb : ¬ ((b.toNat : Int) = 0) := fun e => h (UInt32.toNat_inj.1 (by show b.toNat = 0; omega))
  refine ⟨by simpa using hb, w32_of ?_⟩
  rw [UInt32.toNat_mod, Int.tmod_eq_emod_of_nonneg (by omega)]
  push_cast; rfl
theorem ci_w32 {a : UInt32} {k : IntKind} : aCi k (w32 a) = (True, .sc (.int k (k.wrap (a.toNat : Int)))) := rfl
theorem ci_u32 {k : IntKind} {n : Nat} : aCi .u32 (.sc (.int k (n : Int))) = (True, w32 (UInt32.ofNat n)) := by
  simp only [aCi, Prod.mk.injEq, true_and]
  refine w32_of ?_
  rw [wrap_u32, UInt32.toNat_ofNat']; omega
theorem w32_wrap {n : Nat} : AV.sc (.int .u32 (IntKind.u32.wrap (n : Int))) = w32 (UInt32.ofNat n) := by
  refine w32_of ?_
  rw [wrap_u32, UInt32.toNat_ofNat']; omega
theorem cells_w32 {a : UInt32} : cellsA (w32 a) = some [w32 a] := rfl
theorem frz_w32 {hp : Hp} {a : UInt32} : frz hp (w32 a) = w32 a := rfl
theorem free_w32 {a : UInt32} : (w32 a).free = true := rfl
theorem flat_w32 {a : UInt32} : (w32 a).flat = true := rfl
theorem ren_w32 {ρ : Nat → Nat → Nat × Nat} {a : UInt32} : ren ρ (w32 a) = w32 a := rfl
theorem fo_w32 {a : UInt32} : (w32 a).fo = true := rfl
theorem free_map32 {l : List UInt32} : AV.free.freeL (l.map w32) = true := freeL_iff.2 fun x hx => by
  obtain ⟨c, _, rfl⟩ := List.mem_map.1 hx
  rfl
theorem renL_map32 {ρ : Nat → Nat → Nat × Nat} {l : List UInt32} : ren.renL ρ (l.map w32) = l.map w32 := renL_free ρ _ free_map32
theorem frzL_map32 {hp : Hp} : ∀ {l : List UInt32}, frz.frzL hp (l.map w32) = l.map w32
  | [] => rfl
  | c :: l => by simp only [List.map_cons, frz.frzL, frz_w32, frzL_map32]
theorem getD_w32 {l : List UInt32} {i : Nat} (h : i < l.length) : (l.map w32).getD i .junk = w32 (l.getD i 0) := by
  simp [List.getD, List.getElem?_eq_getElem h]
theorem take_w32 {l : List UInt32} {n : Nat} : (l.map w32).take n = (l.take n).map w32 := by simp
theorem drop_w32 {l : List UInt32} {n : Nat} : (l.map w32).drop n = (l.drop n).map w32 := by simp
theorem splice_w32 {l : List UInt32} {k : Nat} {c : UInt32} (h : k < l.length) : (l.take k).map w32 ++ (w32 c :: (l.drop (k + 1)).map w32) = (l.set k c).map w32 := by
  rw [List.set_eq_take_append_cons_drop, if_pos h]
  simp
theorem aBin_int {op : BinOp} {k k' : IntKind} {a b : Int} : aBin op (.sc (.int k a)) (.sc (.int k' b)) = aInt op k a k' b := rfl
theorem aBin_str {op : BinOp} {a b : ByteArray} : aBin op (.sc (.string a)) (.sc (.string b)) = aStr op a b := rfl
theorem aUn_neg {k : IntKind} {n : Int} : aUn .neg (.sc (.int k n)) = (True, .sc (.int k (k.wrap (0 - n)))) := rfl
theorem aUn_xor {k : IntKind} {n : Int} : aUn .xor (.sc (.int k n)) = (True, .sc (.int k (k.wrap (BitVec.ofInt k.bits (if k.signed then -1 else k.max) ^^^ BitVec.ofInt k.bits n).toNat))) := rfl
theorem aUn_not {b : Bool} : aUn .not (.sc (.bool b)) = (True, boo !b) := rfl
theorem aCi_int {k k' : IntKind} {n : Int} : aCi k (.sc (.int k' n)) = (True, .sc (.int k (k.wrap n))) := rfl
end Go.Proofs.YtbmmdkbinlnogaaDoor.Aw
