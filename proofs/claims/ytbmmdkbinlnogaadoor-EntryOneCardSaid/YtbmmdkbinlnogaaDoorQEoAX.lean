/- Parts of the proofs of Eo. -/
import Derived.Test.YtbmmdkbinlnogaaDoorQEoAW
namespace Go.Proofs.YtbmmdkbinlnogaaDoor.Aw
open Go
set_option linter.unusedSimpArgs false
set_option linter.unusedVariables false
section
variable {P : Program} [Tabs P] {Q : Ex → ASt → Prop} {st : ASt}
theorem SWp.condT [Lim] {c : Operand} {x y : SCode} (hc : ev P st c = .sc (.bool true)) (h : SWp P x Q st) : SWp P (.cond c x y) Q st := SWp.cond hc (fun _ => h) (fun h => Bool.noConfusion h)
theorem SWp.condF [Lim] {c : Operand} {x y : SCode} (hc : ev P st c = .sc (.bool false)) (h : SWp P y Q st) : SWp P (.cond c x y) Q st := SWp.cond hc (fun h => Bool.noConfusion h) (fun _ => h)
theorem thn_normal [Lim] {b : SCode} : thn P b Q .normal st = SWp P b Q st := rfl
theorem thn_exit [Lim] {b : SCode} {i : Nat} : thn P b Q (.exit i) st = Q (.exit i) st := rfl
theorem thn_ret [Lim] {b : SCode} : thn P b Q .ret st = Q .ret st := rfl
theorem inb_normal {i : Nat} : inb i Q .normal st = Q .normal st := rfl
theorem inb_ret {i : Nat} : inb i Q .ret st = Q .ret st := rfl
theorem inb_exit {i j : Nat} : inb i Q (.exit j) st = if j = i then Q .normal st else Q (.exit j) st := rfl
theorem At.of {α : Type} {F : α → ASt} {I : α → Prop} {μ : α → Nat} {n : Nat} {s : ASt} (k : α) (hI : I k) (hμ : μ k < n) {N gc : Nat} {l : List (Nat × AV)} {h : List (Nat × Nat × AO)} (hF : F k = mk N gc l h) (hN : N = s.N) (hgc : s.gc ≤ gc)
    (hl : AllTm s.tm l) (hh : AllHp s.hp h) : At F I μ n s := ⟨k, hI, hμ, by rw [hF]; exact le_mk hN hgc hl hh⟩
theorem lp_normal {α : Type} {F : α → ASt} {I : α → Prop} {μ : α → Nat} {n : Nat} : lp F I μ n Q .normal st = At F I μ n st := rfl
theorem lp_exit {α : Type} {F : α → ASt} {I : α → Prop} {μ : α → Nat} {n i : Nat} : lp F I μ n Q (.exit i) st = Q (.exit i) st := rfl
theorem lp_ret {α : Type} {F : α → ASt} {I : α → Prop} {μ : α → Nat} {n : Nat} : lp F I μ n Q .ret st = Q .ret st := rfl
@[congr] theorem lp_congr {α : Type} {F : α → ASt} {I : α → Prop} {μ : α → Nat} {n : Nat} {e e' : Ex} {st' : ASt} (h : e = e') (h' : st = st') : lp F I μ n Q e st = lp F I μ n Q e' st' := by rw [h, h']
@[congr] theorem At_congr {α : Type} {F : α → ASt} {I : α → Prop} {μ : α → Nat} {n : Nat} {st' : ASt} (h' : st = st') : At F I μ n st = At F I μ n st' := by rw [h']
theorem fin_ret {rs : List RV} {out : AV} : fin rs out .ret st = (allOk st rs ∧ frz st.hp (outOf st rs) = out) := rfl
theorem fin_normal {rs : List RV} {out : AV} : fin rs out .normal st = (allOk st rs ∧ frz st.hp (outOf st rs) = out) := rfl
@[congr] theorem fin_congr {rs : List RV} {out : AV} {e e' : Ex} {st' : ASt} (h : e = e') (h' : st = st') : fin rs out e st = fin rs out e' st' := by rw [h, h']
theorem allOk_nil : allOk st [] = True := rfl
theorem allOk_cons {r : RV} {rs : List RV} : allOk st (r :: rs) = ((rval st r).1 ∧ allOk st rs) := rfl
theorem outOf_one {r : RV} : outOf st [r] = (rval st r).2 := rfl
theorem outOf_more {r r' : RV} {rs : List RV} : outOf st (r :: r' :: rs) = .tup ((r :: r' :: rs).map fun r => (rval st r).2) := rfl
theorem rval_tmp {t : Nat} : rval st (.tmp t) = (True, st.tm t) := rfl
theorem rval_cell {t : Nat} {sz : Option Nat} : rval st (.cell t sz) = aLoad sz (st.tm t) st.hp := rfl
theorem AllTm_nil {f : Nat → AV} : AllTm f [] = True := rfl
theorem AllTm_cons {f : Nat → AV} {t : Nat} {v : AV} {l : List (Nat × AV)} : AllTm f ((t, v) :: l) = (f t = v ∧ AllTm f l) := rfl
theorem AllHp_nil {f : Hp} : AllHp f [] = True := rfl
theorem AllHp_cons {f : Hp} {t : Nat} {v : Nat × AO} {l : List (Nat × Nat × AO)} : AllHp f ((t, v) :: l) = (f t = some v ∧ AllHp f l) := rfl
theorem int_and_nat {k : IntKind} {a b : Nat} (ha : a < 2 ^ k.bits) (hw : k.wrap ((a &&& b : Nat) : Int) = ((a &&& b : Nat) : Int)) :
    k.wrap (BitVec.ofInt k.bits (a : Int) &&& BitVec.ofInt k.bits (b : Int)).toNat = ((a &&& b : Nat) : Int) := by
  rw [BitVec.toNat_and, BitVec.ofInt_natCast, BitVec.ofInt_natCast, BitVec.toNat_ofNat, BitVec.toNat_ofNat]
  rw [Nat.mod_eq_of_lt ha]
  have : a &&& b % 2 ^ k.bits = a &&& b := by
    apply Nat.eq_of_testBit_eq
    intro i
    simp only [Nat.testBit_and, Nat.testBit_mod_two_pow]
    by_cases hi : i < k.bits
    · simp [hi]
    · have : a.testBit i = false := Nat.testBit_lt_two_pow (Nat.lt_of_lt_of_le ha (Nat.pow_le_pow_right (by omega) (by omega)))
      simp [this]
  rw [this, hw]
theorem fdiv_pow {n m : Nat} : (n : Int).fdiv (2 ^ m) = ((n / 2 ^ m : Nat) : Int) := by
  rw [Int.fdiv_eq_ediv_of_nonneg _ (Int.le_of_lt (Int.pow_pos (by omega)))]; push_cast; rfl
theorem fdiv_pow_lit {n m : Nat} : (no_index (@OfNat.ofNat Int n instOfNat)).fdiv (2 ^ m) = (((@OfNat.ofNat Nat n (instOfNatNat n)) / 2 ^ m : Nat) : Int) := fdiv_pow
theorem fdiv_lit {n m : Nat} : (n : Int).fdiv (no_index (@OfNat.ofNat Int m instOfNat)) = ((n / (@OfNat.ofNat Nat m (instOfNatNat m)) : Nat) : Int) := by
  rw [Int.fdiv_eq_ediv_of_nonneg _ (by exact Int.natCast_nonneg m)]; rfl
theorem tdiv_lit {n m : Nat} : (n : Int).tdiv (no_index (@OfNat.ofNat Int m instOfNat)) = ((n / (@OfNat.ofNat Nat m (instOfNatNat m)) : Nat) : Int) := rfl
theorem tmod_lit {n m : Nat} : (n : Int).tmod (no_index (@OfNat.ofNat Int m instOfNat)) = ((n % (@OfNat.ofNat Nat m (instOfNatNat m)) : Nat) : Int) := rfl
theorem toNat_add_lit {n m : Nat} : ((n : Int) + (no_index (@OfNat.ofNat Int m instOfNat))).toNat = n + (@OfNat.ofNat Nat m (instOfNatNat m)) := rfl
theorem toNat_add_nat {n m : Nat} : ((n : Int) + (m : Int)).toNat = n + m := rfl
theorem mul_pow_lit {n m : Nat} : (no_index (@OfNat.ofNat Int n instOfNat)) * (2 : Int) ^ m = (((@OfNat.ofNat Nat n (instOfNatNat n)) * 2 ^ m : Nat) : Int) := by push_cast; rfl
theorem ex_row {a : Bool} {b : List AV} {p : List AV → Prop} : (∃ nl cells, (a = nl ∧ b = cells) ∧ p cells) = p b := by
  apply propext
  constructor
  · rintro ⟨_, _, ⟨rfl, rfl⟩, h⟩; exact h
  · intro h; exact ⟨_, _, ⟨rfl, rfl⟩, h⟩
theorem mul_pow_nat {n m : Nat} : (n : Int) * 2 ^ m = ((n * 2 ^ m : Nat) : Int) := by push_cast; rfl
theorem aInt_add {k k' : IntKind} {a b : Int} : aInt .add k a k' b = (k = k', .sc (.int k (k.wrap (a + b)))) := rfl
theorem aInt_sub {k k' : IntKind} {a b : Int} : aInt .sub k a k' b = (k = k', .sc (.int k (k.wrap (a - b)))) := rfl
theorem aInt_mul {k k' : IntKind} {a b : Int} : aInt .mul k a k' b = (k = k', .sc (.int k (k.wrap (a * b)))) := rfl
theorem aInt_quo {k k' : IntKind} {a b : Int} : aInt .quo k a k' b = (k = k' ∧ b ≠ 0, .sc (.int k (k.wrap (a.tdiv b)))) := rfl
theorem aInt_rem {k k' : IntKind} {a b : Int} : aInt .rem k a k' b = (k = k' ∧ b ≠ 0, .sc (.int k (a.tmod b))) := rfl
theorem aInt_shl {k k' : IntKind} {a b : Int} : aInt .shl k a k' b = (0 ≤ b, .sc (.int k (k.wrap (a * 2 ^ (min b.toNat k.bits))))) := rfl
theorem aInt_shr {k k' : IntKind} {a b : Int} : aInt .shr k a k' b = (0 ≤ b, .sc (.int k (a.fdiv (2 ^ (min b.toNat k.bits))))) := rfl
theorem aInt_eql {k k' : IntKind} {a b : Int} : aInt .eql k a k' b = (k = k', boo (decide (a = b))) := rfl
theorem aInt_neq {k k' : IntKind} {a b : Int} : aInt .neq k a k' b = (k = k', boo (!decide (a = b))) := rfl
theorem aInt_lss {k k' : IntKind} {a b : Int} : aInt .lss k a k' b = (k = k', boo (decide (a < b))) := rfl
theorem aInt_leq {k k' : IntKind} {a b : Int} : aInt .leq k a k' b = (k = k', boo (decide (a ≤ b))) := rfl
theorem aInt_gtr {k k' : IntKind} {a b : Int} : aInt .gtr k a k' b = (k = k', boo (decide (b < a))) := rfl
theorem aInt_geq {k k' : IntKind} {a b : Int} : aInt .geq k a k' b = (k = k', boo (decide (b ≤ a))) := rfl
theorem wrap_nat {k : IntKind} {n : Nat} (h : n < 2 ^ k.bits) (hs : k.signed = false ∨ n < 2 ^ (k.bits - 1)) : k.wrap (n : Int) = (n : Int) := by
  have h1 : ((n : Int) % (2 ^ k.bits : Int)) = n := by
    have : (2 ^ k.bits : Int) = ((2 ^ k.bits : Nat) : Int) := by push_cast; rfl
    rw [this]
    exact Int.emod_eq_of_lt (by omega) (by exact_mod_cast h)
  simp only [IntKind.wrap, h1]
  rcases hs with hs | hs
  · simp [hs]
  · have : ¬ ((n : Int) ≥ (2 ^ (k.bits - 1) : Int)) := by
      have e : (2 ^ (k.bits - 1) : Int) = ((2 ^ (k.bits - 1) : Nat) : Int) := by push_cast; rfl
      rw [e]; omega
    simp [this]
theorem aInt_and_nat {k : IntKind} {n m : Nat} (h : n < 2 ^ k.bits) (hs : k.signed = false ∨ n < 2 ^ (k.bits - 1)) : aInt .and k (n : Int) k (m : Int) = (True, .sc (.int k ((n &&& m : Nat) : Int))) := by
  have hle : n &&& m ≤ n := Nat.and_le_left
  have hw : k.wrap ((n &&& m : Nat) : Int) = ((n &&& m : Nat) : Int) := wrap_nat (Nat.lt_of_le_of_lt hle h) (hs.imp id fun h => Nat.lt_of_le_of_lt hle h)
  have := int_and_nat (k := k) (b := m) h hw
  simp only [aInt, this]
theorem aInt_or_nat {k : IntKind} {n m b : Nat} (hn : n < 2 ^ b) (hm : m < 2 ^ b) (hb : b ≤ k.bits) (hs : k.signed = false ∨ b ≤ k.bits - 1) : aInt .or k (n : Int) k (m : Int) = (True, .sc (.int k ((n ||| m : Nat) : Int))) := by
  have hlt : n ||| m < 2 ^ b := Nat.or_lt_two_pow hn hm
  have hp : 2 ^ b ≤ 2 ^ k.bits := Nat.pow_le_pow_right (by omega) hb
  have hw : k.wrap ((n ||| m : Nat) : Int) = ((n ||| m : Nat) : Int) := wrap_nat (Nat.lt_of_lt_of_le hlt hp) (hs.imp id fun h => Nat.lt_of_lt_of_le hlt (Nat.pow_le_pow_right (by omega) h))
  have e : (BitVec.ofInt k.bits (n : Int) ||| BitVec.ofInt k.bits (m : Int)).toNat = n ||| m := by
    rw [BitVec.toNat_or, BitVec.ofInt_natCast, BitVec.ofInt_natCast, BitVec.toNat_ofNat, BitVec.toNat_ofNat, Nat.mod_eq_of_lt (by omega), Nat.mod_eq_of_lt (by omega)]
  simp only [aInt, e, hw]
theorem aInt_xor_nat {k : IntKind} {n m b : Nat} (hn : n < 2 ^ b) (hm : m < 2 ^ b) (hb : b ≤ k.bits) (hs : k.signed = false ∨ b ≤ k.bits - 1) : aInt .xor k (n : Int) k (m : Int) = (True, .sc (.int k ((n ^^^ m : Nat) : Int))) := by
  have hlt : n ^^^ m < 2 ^ b := Nat.xor_lt_two_pow hn hm
  have hp : 2 ^ b ≤ 2 ^ k.bits := Nat.pow_le_pow_right (by omega) hb
  have hw : k.wrap ((n ^^^ m : Nat) : Int) = ((n ^^^ m : Nat) : Int) := wrap_nat (Nat.lt_of_lt_of_le hlt hp) (hs.imp id fun h => Nat.lt_of_lt_of_le hlt (Nat.pow_le_pow_right (by omega) h))
  have e : (BitVec.ofInt k.bits (n : Int) ^^^ BitVec.ofInt k.bits (m : Int)).toNat = n ^^^ m := by
    rw [BitVec.toNat_xor, BitVec.ofInt_natCast, BitVec.ofInt_natCast, BitVec.toNat_ofNat, BitVec.toNat_ofNat, Nat.mod_eq_of_lt (by omega), Nat.mod_eq_of_lt (by omega)]
  simp only [aInt, e, hw]
theorem and_u8 {n m : Nat} (h : n < 256) : aInt .and .u8 (n : Int) .u8 (m : Int) = (True, .sc (.int .u8 ((n &&& m : Nat) : Int))) := aInt_and_nat h (.inl rfl)
theorem and_u8_lit {n m : Nat} (h : n < 256) : aInt .and .u8 (n : Int) .u8 (no_index (@OfNat.ofNat Int m instOfNat)) = (True, .sc (.int .u8 ((n &&& (@OfNat.ofNat Nat m (instOfNatNat m)) : Nat) : Int))) := aInt_and_nat h (.inl rfl)
theorem and_i64 {n m : Nat} (h : n < 9223372036854775808) : aInt .and .i64 (n : Int) .i64 (m : Int) = (True, .sc (.int .i64 ((n &&& m : Nat) : Int))) := aInt_and_nat (Nat.lt_trans h (by decide)) (.inr h)
theorem and_i64_lit {n m : Nat} (h : n < 9223372036854775808) : aInt .and .i64 (n : Int) .i64 (no_index (@OfNat.ofNat Int m instOfNat)) = (True, .sc (.int .i64 ((n &&& (@OfNat.ofNat Nat m (instOfNatNat m)) : Nat) : Int))) := aInt_and_nat (Nat.lt_trans h (by decide)) (.inr h)
theorem and_u32 {n m : Nat} (h : n < 4294967296) : aInt .and .u32 (n : Int) .u32 (m : Int) = (True, .sc (.int .u32 ((n &&& m : Nat) : Int))) := aInt_and_nat h (.inl rfl)
theorem and_u32_lit {n m : Nat} (h : n < 4294967296) : aInt .and .u32 (n : Int) .u32 (no_index (@OfNat.ofNat Int m instOfNat)) = (True, .sc (.int .u32 ((n &&& (@OfNat.ofNat Nat m (instOfNatNat m)) : Nat) : Int))) := aInt_and_nat h (.inl rfl)
theorem and_u64 {n m : Nat} (h : n < 18446744073709551616) : aInt .and .u64 (n : Int) .u64 (m : Int) = (True, .sc (.int .u64 ((n &&& m : Nat) : Int))) := aInt_and_nat h (.inl rfl)
theorem and_u64_lit {n m : Nat} (h : n < 18446744073709551616) : aInt .and .u64 (n : Int) .u64 (no_index (@OfNat.ofNat Int m instOfNat)) = (True, .sc (.int .u64 ((n &&& (@OfNat.ofNat Nat m (instOfNatNat m)) : Nat) : Int))) := aInt_and_nat h (.inl rfl)
theorem or_u8 {n m : Nat} (h : n < 256) (h' : m < 256) : aInt .or .u8 (n : Int) .u8 (m : Int) = (True, .sc (.int .u8 ((n ||| m : Nat) : Int))) := aInt_or_nat (b := 8) h h' (by decide) (.inl rfl)
theorem or_u32 {n m : Nat} (h : n < 4294967296) (h' : m < 4294967296) : aInt .or .u32 (n : Int) .u32 (m : Int) = (True, .sc (.int .u32 ((n ||| m : Nat) : Int))) := aInt_or_nat (b := 32) h h' (by decide) (.inl rfl)
theorem or_u64 {n m : Nat} (h : n < 18446744073709551616) (h' : m < 18446744073709551616) : aInt .or .u64 (n : Int) .u64 (m : Int) = (True, .sc (.int .u64 ((n ||| m : Nat) : Int))) := aInt_or_nat (b := 64) h h' (by decide) (.inl rfl)
theorem or_i64 {n m : Nat} (h : n < 9223372036854775808) (h' : m < 9223372036854775808) : aInt .or .i64 (n : Int) .i64 (m : Int) = (True, .sc (.int .i64 ((n ||| m : Nat) : Int))) := aInt_or_nat (b := 63) h h' (by decide) (.inr (by decide))
theorem xor_u8 {n m : Nat} (h : n < 256) (h' : m < 256) : aInt .xor .u8 (n : Int) .u8 (m : Int) = (True, .sc (.int .u8 ((n ^^^ m : Nat) : Int))) := aInt_xor_nat (b := 8) h h' (by decide) (.inl rfl)
theorem xor_u32 {n m : Nat} (h : n < 4294967296) (h' : m < 4294967296) : aInt .xor .u32 (n : Int) .u32 (m : Int) = (True, .sc (.int .u32 ((n ^^^ m : Nat) : Int))) := aInt_xor_nat (b := 32) h h' (by decide) (.inl rfl)
theorem xor_u64 {n m : Nat} (h : n < 18446744073709551616) (h' : m < 18446744073709551616) : aInt .xor .u64 (n : Int) .u64 (m : Int) = (True, .sc (.int .u64 ((n ^^^ m : Nat) : Int))) := aInt_xor_nat (b := 64) h h' (by decide) (.inl rfl)
theorem or_i64_add {a b m : Nat} (h : a + b < 9223372036854775808) (h' : m < 9223372036854775808) : aInt .or .i64 ((a : Int) + (b : Int)) .i64 (m : Int) = (True, .sc (.int .i64 ((a + b ||| m : Nat) : Int))) := aInt_or_nat (b := 63) h h' (by decide) (.inr (by decide))
theorem or_i64_add_lit {a b m : Nat} (h : a + b < 9223372036854775808) (h' : (@OfNat.ofNat Nat m (instOfNatNat m)) < 9223372036854775808) : aInt .or .i64 ((a : Int) + (b : Int)) .i64 (no_index (@OfNat.ofNat Int m instOfNat)) = (True, .sc (.int .i64 ((a + b ||| (@OfNat.ofNat Nat m (instOfNatNat m)) : Nat) : Int))) := aInt_or_nat (b := 63) h h' (by decide) (.inr (by decide))
theorem or_u8_lit {n m : Nat} (h : n < 256) (h' : (@OfNat.ofNat Nat m (instOfNatNat m)) < 256) : aInt .or .u8 (n : Int) .u8 (no_index (@OfNat.ofNat Int m instOfNat)) = (True, .sc (.int .u8 ((n ||| (@OfNat.ofNat Nat m (instOfNatNat m)) : Nat) : Int))) := aInt_or_nat (b := 8) h h' (by decide) (.inl rfl)
theorem or_u8_til {n m : Nat} (h : (@OfNat.ofNat Nat n (instOfNatNat n)) < 256) (h' : m < 256) : aInt .or .u8 (no_index (@OfNat.ofNat Int n instOfNat)) .u8 (m : Int) = (True, .sc (.int .u8 (((@OfNat.ofNat Nat n (instOfNatNat n)) ||| m : Nat) : Int))) := aInt_or_nat (b := 8) h h' (by decide) (.inl rfl)
theorem or_u8_ll {n m : Nat} (h : (@OfNat.ofNat Nat n (instOfNatNat n)) < 256) (h' : (@OfNat.ofNat Nat m (instOfNatNat m)) < 256) : aInt .or .u8 (no_index (@OfNat.ofNat Int n instOfNat)) .u8 (no_index (@OfNat.ofNat Int m instOfNat)) = (True, .sc (.int .u8 (((@OfNat.ofNat Nat n (instOfNatNat n)) ||| (@OfNat.ofNat Nat m (instOfNatNat m)) : Nat) : Int))) := aInt_or_nat (b := 8) h h' (by decide) (.inl rfl)
theorem or_u32_lit {n m : Nat} (h : n < 4294967296) (h' : (@OfNat.ofNat Nat m (instOfNatNat m)) < 4294967296) : aInt .or .u32 (n : Int) .u32 (no_index (@OfNat.ofNat Int m instOfNat)) = (True, .sc (.int .u32 ((n ||| (@OfNat.ofNat Nat m (instOfNatNat m)) : Nat) : Int))) := aInt_or_nat (b := 32) h h' (by decide) (.inl rfl)
theorem or_u32_til {n m : Nat} (h : (@OfNat.ofNat Nat n (instOfNatNat n)) < 4294967296) (h' : m < 4294967296) : aInt .or .u32 (no_index (@OfNat.ofNat Int n instOfNat)) .u32 (m : Int) = (True, .sc (.int .u32 (((@OfNat.ofNat Nat n (instOfNatNat n)) ||| m : Nat) : Int))) := aInt_or_nat (b := 32) h h' (by decide) (.inl rfl)
theorem or_u32_ll {n m : Nat} (h : (@OfNat.ofNat Nat n (instOfNatNat n)) < 4294967296) (h' : (@OfNat.ofNat Nat m (instOfNatNat m)) < 4294967296) : aInt .or .u32 (no_index (@OfNat.ofNat Int n instOfNat)) .u32 (no_index (@OfNat.ofNat Int m instOfNat)) = (True, .sc (.int .u32 (((@OfNat.ofNat Nat n (instOfNatNat n)) ||| (@OfNat.ofNat Nat m (instOfNatNat m)) : Nat) : Int))) := aInt_or_nat (b := 32) h h' (by decide) (.inl rfl)
theorem or_u64_lit {n m : Nat} (h : n < 18446744073709551616) (h' : (@OfNat.ofNat Nat m (instOfNatNat m)) < 18446744073709551616) : aInt .or .u64 (n : Int) .u64 (no_index (@OfNat.ofNat Int m instOfNat)) = (True, .sc (.int .u64 ((n ||| (@OfNat.ofNat Nat m (instOfNatNat m)) : Nat) : Int))) := aInt_or_nat (b := 64) h h' (by decide) (.inl rfl)
theorem or_u64_til {n m : Nat} (h : (@OfNat.ofNat Nat n (instOfNatNat n)) < 18446744073709551616) (h' : m < 18446744073709551616) : aInt .or .u64 (no_index (@OfNat.ofNat Int n instOfNat)) .u64 (m : Int) = (True, .sc (.int .u64 (((@OfNat.ofNat Nat n (instOfNatNat n)) ||| m : Nat) : Int))) := aInt_or_nat (b := 64) h h' (by decide) (.inl rfl)
theorem or_u64_ll {n m : Nat} (h : (@OfNat.ofNat Nat n (instOfNatNat n)) < 18446744073709551616) (h' : (@OfNat.ofNat Nat m (instOfNatNat m)) < 18446744073709551616) : aInt .or .u64 (no_index (@OfNat.ofNat Int n instOfNat)) .u64 (no_index (@OfNat.ofNat Int m instOfNat)) = (True, .sc (.int .u64 (((@OfNat.ofNat Nat n (instOfNatNat n)) ||| (@OfNat.ofNat Nat m (instOfNatNat m)) : Nat) : Int))) := aInt_or_nat (b := 64) h h' (by decide) (.inl rfl)
theorem or_i64_lit {n m : Nat} (h : n < 9223372036854775808) (h' : (@OfNat.ofNat Nat m (instOfNatNat m)) < 9223372036854775808) : aInt .or .i64 (n : Int) .i64 (no_index (@OfNat.ofNat Int m instOfNat)) = (True, .sc (.int .i64 ((n ||| (@OfNat.ofNat Nat m (instOfNatNat m)) : Nat) : Int))) := aInt_or_nat (b := 63) h h' (by decide) (.inr (by decide))
theorem or_i64_til {n m : Nat} (h : (@OfNat.ofNat Nat n (instOfNatNat n)) < 9223372036854775808) (h' : m < 9223372036854775808) : aInt .or .i64 (no_index (@OfNat.ofNat Int n instOfNat)) .i64 (m : Int) = (True, .sc (.int .i64 (((@OfNat.ofNat Nat n (instOfNatNat n)) ||| m : Nat) : Int))) := aInt_or_nat (b := 63) h h' (by decide) (.inr (by decide))
theorem or_i64_ll {n m : Nat} (h : (@OfNat.ofNat Nat n (instOfNatNat n)) < 9223372036854775808) (h' : (@OfNat.ofNat Nat m (instOfNatNat m)) < 9223372036854775808) : aInt .or .i64 (no_index (@OfNat.ofNat Int n instOfNat)) .i64 (no_index (@OfNat.ofNat Int m instOfNat)) = (True, .sc (.int .i64 (((@OfNat.ofNat Nat n (instOfNatNat n)) ||| (@OfNat.ofNat Nat m (instOfNatNat m)) : Nat) : Int))) := aInt_or_nat (b := 63) h h' (by decide) (.inr (by decide))
theorem xor_u8_lit {n m : Nat} (h : n < 256) (h' : (@OfNat.ofNat Nat m (instOfNatNat m)) < 256) : aInt .xor .u8 (n : Int) .u8 (no_index (@OfNat.ofNat Int m instOfNat)) = (True, .sc (.int .u8 ((n ^^^ (@OfNat.ofNat Nat m (instOfNatNat m)) : Nat) : Int))) := aInt_xor_nat (b := 8) h h' (by decide) (.inl rfl)
theorem xor_u8_til {n m : Nat} (h : (@OfNat.ofNat Nat n (instOfNatNat n)) < 256) (h' : m < 256) : aInt .xor .u8 (no_index (@OfNat.ofNat Int n instOfNat)) .u8 (m : Int) = (True, .sc (.int .u8 (((@OfNat.ofNat Nat n (instOfNatNat n)) ^^^ m : Nat) : Int))) := aInt_xor_nat (b := 8) h h' (by decide) (.inl rfl)
theorem xor_u8_ll {n m : Nat} (h : (@OfNat.ofNat Nat n (instOfNatNat n)) < 256) (h' : (@OfNat.ofNat Nat m (instOfNatNat m)) < 256) : aInt .xor .u8 (no_index (@OfNat.ofNat Int n instOfNat)) .u8 (no_index (@OfNat.ofNat Int m instOfNat)) = (True, .sc (.int .u8 (((@OfNat.ofNat Nat n (instOfNatNat n)) ^^^ (@OfNat.ofNat Nat m (instOfNatNat m)) : Nat) : Int))) := aInt_xor_nat (b := 8) h h' (by decide) (.inl rfl)
theorem xor_u32_lit {n m : Nat} (h : n < 4294967296) (h' : (@OfNat.ofNat Nat m (instOfNatNat m)) < 4294967296) : aInt .xor .u32 (n : Int) .u32 (no_index (@OfNat.ofNat Int m instOfNat)) = (True, .sc (.int .u32 ((n ^^^ (@OfNat.ofNat Nat m (instOfNatNat m)) : Nat) : Int))) := aInt_xor_nat (b := 32) h h' (by decide) (.inl rfl)
theorem xor_u32_til {n m : Nat} (h : (@OfNat.ofNat Nat n (instOfNatNat n)) < 4294967296) (h' : m < 4294967296) : aInt .xor .u32 (no_index (@OfNat.ofNat Int n instOfNat)) .u32 (m : Int) = (True, .sc (.int .u32 (((@OfNat.ofNat Nat n (instOfNatNat n)) ^^^ m : Nat) : Int))) := aInt_xor_nat (b := 32) h h' (by decide) (.inl rfl)
theorem xor_u32_ll {n m : Nat} (h : (@OfNat.ofNat Nat n (instOfNatNat n)) < 4294967296) (h' : (@OfNat.ofNat Nat m (instOfNatNat m)) < 4294967296) : aInt .xor .u32 (no_index (@OfNat.ofNat Int n instOfNat)) .u32 (no_index (@OfNat.ofNat Int m instOfNat)) = (True, .sc (.int .u32 (((@OfNat.ofNat Nat n (instOfNatNat n)) ^^^ (@OfNat.ofNat Nat m (instOfNatNat m)) : Nat) : Int))) := aInt_xor_nat (b := 32) h h' (by decide) (.inl rfl)
theorem xor_u64_lit {n m : Nat} (h : n < 18446744073709551616) (h' : (@OfNat.ofNat Nat m (instOfNatNat m)) < 18446744073709551616) : aInt .xor .u64 (n : Int) .u64 (no_index (@OfNat.ofNat Int m instOfNat)) = (True, .sc (.int .u64 ((n ^^^ (@OfNat.ofNat Nat m (instOfNatNat m)) : Nat) : Int))) := aInt_xor_nat (b := 64) h h' (by decide) (.inl rfl)
theorem xor_u64_til {n m : Nat} (h : (@OfNat.ofNat Nat n (instOfNatNat n)) < 18446744073709551616) (h' : m < 18446744073709551616) : aInt .xor .u64 (no_index (@OfNat.ofNat Int n instOfNat)) .u64 (m : Int) = (True, .sc (.int .u64 (((@OfNat.ofNat Nat n (instOfNatNat n)) ^^^ m : Nat) : Int))) := aInt_xor_nat (b := 64) h h' (by decide) (.inl rfl)
theorem xor_u64_ll {n m : Nat} (h : (@OfNat.ofNat Nat n (instOfNatNat n)) < 18446744073709551616) (h' : (@OfNat.ofNat Nat m (instOfNatNat m)) < 18446744073709551616) : aInt .xor .u64 (no_index (@OfNat.ofNat Int n instOfNat)) .u64 (no_index (@OfNat.ofNat Int m instOfNat)) = (True, .sc (.int .u64 (((@OfNat.ofNat Nat n (instOfNatNat n)) ^^^ (@OfNat.ofNat Nat m (instOfNatNat m)) : Nat) : Int))) := aInt_xor_nat (b := 64) h h' (by decide) (.inl rfl)
theorem xor_i64_lit {n m : Nat} (h : n < 9223372036854775808) (h' : (@OfNat.ofNat Nat m (instOfNatNat m)) < 9223372036854775808) : aInt .xor .i64 (n : Int) .i64 (no_index (@OfNat.ofNat Int m instOfNat)) = (True, .sc (.int .i64 ((n ^^^ (@OfNat.ofNat Nat m (instOfNatNat m)) : Nat) : Int))) := aInt_xor_nat (b := 63) h h' (by decide) (.inr (by decide))
theorem xor_i64_til {n m : Nat} (h : (@OfNat.ofNat Nat n (instOfNatNat n)) < 9223372036854775808) (h' : m < 9223372036854775808) : aInt .xor .i64 (no_index (@OfNat.ofNat Int n instOfNat)) .i64 (m : Int) = (True, .sc (.int .i64 (((@OfNat.ofNat Nat n (instOfNatNat n)) ^^^ m : Nat) : Int))) := aInt_xor_nat (b := 63) h h' (by decide) (.inr (by decide))
theorem xor_i64_ll {n m : Nat} (h : (@OfNat.ofNat Nat n (instOfNatNat n)) < 9223372036854775808) (h' : (@OfNat.ofNat Nat m (instOfNatNat m)) < 9223372036854775808) : aInt .xor .i64 (no_index (@OfNat.ofNat Int n instOfNat)) .i64 (no_index (@OfNat.ofNat Int m instOfNat)) = (True, .sc (.int .i64 (((@OfNat.ofNat Nat n (instOfNatNat n)) ^^^ (@OfNat.ofNat Nat m (instOfNatNat m)) : Nat) : Int))) := aInt_xor_nat (b := 63) h h' (by decide) (.inr (by decide))
theorem and_u8_til {n m : Nat} (h : (@OfNat.ofNat Nat n (instOfNatNat n)) < 256) : aInt .and .u8 (no_index (@OfNat.ofNat Int n instOfNat)) .u8 (m : Int) = (True, .sc (.int .u8 (((@OfNat.ofNat Nat n (instOfNatNat n)) &&& m : Nat) : Int))) := aInt_and_nat h (.inl rfl)
theorem and_u8_ll {n m : Nat} (h : (@OfNat.ofNat Nat n (instOfNatNat n)) < 256) : aInt .and .u8 (no_index (@OfNat.ofNat Int n instOfNat)) .u8 (no_index (@OfNat.ofNat Int m instOfNat)) = (True, .sc (.int .u8 (((@OfNat.ofNat Nat n (instOfNatNat n)) &&& (@OfNat.ofNat Nat m (instOfNatNat m)) : Nat) : Int))) := aInt_and_nat h (.inl rfl)
theorem and_u32_til {n m : Nat} (h : (@OfNat.ofNat Nat n (instOfNatNat n)) < 4294967296) : aInt .and .u32 (no_index (@OfNat.ofNat Int n instOfNat)) .u32 (m : Int) = (True, .sc (.int .u32 (((@OfNat.ofNat Nat n (instOfNatNat n)) &&& m : Nat) : Int))) := aInt_and_nat h (.inl rfl)
theorem and_u32_ll {n m : Nat} (h : (@OfNat.ofNat Nat n (instOfNatNat n)) < 4294967296) : aInt .and .u32 (no_index (@OfNat.ofNat Int n instOfNat)) .u32 (no_index (@OfNat.ofNat Int m instOfNat)) = (True, .sc (.int .u32 (((@OfNat.ofNat Nat n (instOfNatNat n)) &&& (@OfNat.ofNat Nat m (instOfNatNat m)) : Nat) : Int))) := aInt_and_nat h (.inl rfl)
theorem and_u64_til {n m : Nat} (h : (@OfNat.ofNat Nat n (instOfNatNat n)) < 18446744073709551616) : aInt .and .u64 (no_index (@OfNat.ofNat Int n instOfNat)) .u64 (m : Int) = (True, .sc (.int .u64 (((@OfNat.ofNat Nat n (instOfNatNat n)) &&& m : Nat) : Int))) := aInt_and_nat h (.inl rfl)
theorem and_u64_ll {n m : Nat} (h : (@OfNat.ofNat Nat n (instOfNatNat n)) < 18446744073709551616) : aInt .and .u64 (no_index (@OfNat.ofNat Int n instOfNat)) .u64 (no_index (@OfNat.ofNat Int m instOfNat)) = (True, .sc (.int .u64 (((@OfNat.ofNat Nat n (instOfNatNat n)) &&& (@OfNat.ofNat Nat m (instOfNatNat m)) : Nat) : Int))) := aInt_and_nat h (.inl rfl)
theorem and_i64_til {n m : Nat} (h : (@OfNat.ofNat Nat n (instOfNatNat n)) < 9223372036854775808) : aInt .and .i64 (no_index (@OfNat.ofNat Int n instOfNat)) .i64 (m : Int) = (True, .sc (.int .i64 (((@OfNat.ofNat Nat n (instOfNatNat n)) &&& m : Nat) : Int))) := aInt_and_nat (Nat.lt_trans h (by decide)) (.inr h)
theorem and_i64_ll {n m : Nat} (h : (@OfNat.ofNat Nat n (instOfNatNat n)) < 9223372036854775808) : aInt .and .i64 (no_index (@OfNat.ofNat Int n instOfNat)) .i64 (no_index (@OfNat.ofNat Int m instOfNat)) = (True, .sc (.int .i64 (((@OfNat.ofNat Nat n (instOfNatNat n)) &&& (@OfNat.ofNat Nat m (instOfNatNat m)) : Nat) : Int))) := aInt_and_nat (Nat.lt_trans h (by decide)) (.inr h)
theorem bits_u8 : IntKind.u8.bits = 8 := rfl
theorem bits_u16 : IntKind.u16.bits = 16 := rfl
theorem bits_u32 : IntKind.u32.bits = 32 := rfl
theorem bits_u64 : IntKind.u64.bits = 64 := rfl
theorem bits_i64 : IntKind.i64.bits = 64 := rfl
theorem and_1 {n : Nat} : n &&& 1 = n % 2 := Nat.and_two_pow_sub_one_eq_mod n 1
theorem and_3 {n : Nat} : n &&& 3 = n % 4 := Nat.and_two_pow_sub_one_eq_mod n 2
theorem and_7 {n : Nat} : n &&& 7 = n % 8 := Nat.and_two_pow_sub_one_eq_mod n 3
theorem and_15 {n : Nat} : n &&& 15 = n % 16 := Nat.and_two_pow_sub_one_eq_mod n 4
theorem and_31 {n : Nat} : n &&& 31 = n % 32 := Nat.and_two_pow_sub_one_eq_mod n 5
theorem and_63 {n : Nat} : n &&& 63 = n % 64 := Nat.and_two_pow_sub_one_eq_mod n 6
theorem and_127 {n : Nat} : n &&& 127 = n % 128 := Nat.and_two_pow_sub_one_eq_mod n 7
theorem and_255 {n : Nat} : n &&& 255 = n % 256 := Nat.and_two_pow_sub_one_eq_mod n 8
theorem cellsA_int {k : IntKind} {n : Int} : cellsA (.sc (.int k n)) = some [.sc (.int k n)] := rfl
theorem cellsA_bool {b : Bool} : cellsA (.sc (.bool b)) = some [.sc (.bool b)] := rfl
theorem cellsA_string {b : ByteArray} : cellsA (.sc (.string b)) = some [.sc (.string b)] := rfl
theorem cellsA_nil {a : Option Addr} {n k : Nat} : cellsA (.sc (.slice a n k)) = some [.sc (.slice a n k)] := rfl
theorem cellsA_agg {xs : List AV} : cellsA (.agg xs) = some xs := rfl
theorem cellsA_sl {nl : Bool} {es : Option Nat} {xs : List AV} : cellsA (.sl nl es xs) = some [.sl nl es xs] := rfl
theorem cellsA_own {i g lo n : Nat} {es : Option Nat} : cellsA (.own i g es lo n) = some [.own i g es lo n] := rfl
theorem cellsA_op {i g o : Nat} : cellsA (.op i g o) = some [.op i g o] := rfl
theorem cellsA_fp {x : AV} {o : Nat} : cellsA (.fp x o) = some [.fp x o] := rfl
theorem getD_u8 {b : List UInt8} {i : Nat} (h : i < b.length) : (b.map u8).getD i .junk = u8 (b.getD i 0) := by
  simp [List.getD, List.getElem?_eq_getElem h]
theorem length_u8 {b : List UInt8} : (b.map u8).length = b.length := by simp
theorem free_u8 {b : List UInt8} : AV.free.freeL (b.map u8) = true := freeL_iff.2 fun x hx => by
  obtain ⟨c, _, rfl⟩ := List.mem_map.1 hx
  rfl
theorem take_u8 {b : List UInt8} {n : Nat} : (b.map u8).take n = (b.take n).map u8 := by simp
theorem drop_u8 {b : List UInt8} {n : Nat} : (b.map u8).drop n = (b.drop n).map u8 := by simp
theorem unu8_u8 {b : List UInt8} : (b.map u8).map unu8 = b := by
  rw [List.map_map]
  have : unu8 ∘ u8 = id := by funext c; simp [unu8, u8]
  rw [this, List.map_id]
theorem Con.of' [Lim] {f N : Nat} {fn : Func} {ins : List AV} {out : AV} {S : SCode} {rs : List RV} (hm : P.follows .mixedOrders = true) (hf : P.funcs[f]? = some fn) (hb : fn.body.isSome = true) (hN : fn.ntmps = N) (hs : slimC P N (fn.body.getD .skip) = S) (hrs : slimRes P fn = some rs)
    (hn : ins.length ≤ N) (hfree : AV.free.freeL ins = true) (hof : out.free = true) (h : SWp P S (fin rs out) (start N ins)) : Con P f ins out := by
  obtain ⟨code, hc⟩ := Option.isSome_iff_exists.1 hb
  subst hN
  exact Con.of hm hf hc (by rw [hc] at hs; exact hs) hrs hn hfree hof h
end
def LoopAt (P : Program) [Tabs P] [Lim] (x : SCode) (Q : Ex → ASt → Prop) (st : ASt) : Prop :=
  P.follows .mixedOrders = true → ∀ cx, slimC P st.N cx = x → ∀ (w0 : World) (M : Nat → Prop) (Z : Beg) (G : Gh) (a : Act) (w : World), Z.lim = Lim.lim → R P w0 M Z G st a w → headR P cx (PostR P (plainC cx) w0 M Z st.N Q) a w
def again (P : Program) [Tabs P] [Lim] (x : SCode) (Q : Ex → ASt → Prop) : Ex → ASt → Prop
  | .normal, s => LoopAt P x Q s
  | e, s => Q e s
theorem again_normal {P : Program} [Tabs P] [Lim] {x : SCode} {Q : Ex → ASt → Prop} {st : ASt} : again P x Q .normal st = LoopAt P x Q st := rfl
theorem again_exit {P : Program} [Tabs P] [Lim] {x : SCode} {Q : Ex → ASt → Prop} {st : ASt} {i : Nat} : again P x Q (.exit i) st = Q (.exit i) st := rfl
theorem again_ret {P : Program} [Tabs P] [Lim] {x : SCode} {Q : Ex → ASt → Prop} {st : ASt} : again P x Q .ret st = Q .ret st := rfl
@[congr] theorem again_congr {P : Program} [Tabs P] [Lim] {x : SCode} {Q : Ex → ASt → Prop} {st st' : ASt} {e e' : Ex} (h : e = e') (h' : st = st') : again P x Q e st = again P x Q e' st' := by rw [h, h']
@[congr] theorem LoopAt_congr {P : Program} [Tabs P] [Lim] {x : SCode} {Q : Ex → ASt → Prop} {st st' : ASt} (h' : st = st') : LoopAt P x Q st = LoopAt P x Q st' := by rw [h']
theorem LoopAt.next {P : Program} [Tabs P] [Lim] {Q : Ex → ASt → Prop} {st : ASt} {x : SCode} (h : SWp P x (again P x Q) st) : LoopAt P x Q st := by
  intro hm cx hc w0 M Z G a w hZ hR
  refine headR_round (wpR_mono (h hm cx hc w0 M Z G a w hZ hR) ?_)
  rintro e a' w' ⟨ex, s, G', rfl, h1, h2, h3⟩
  cases ex with
  | normal =>
    obtain ⟨ds, hpl, hmk, h3⟩ := h3
    exact headR_mono (h1 hm cx (by rw [h2]; exact hc) w' G'.reg ⟨G', Z.c, ds ++ Z.defs, Z.lim⟩ G' a' w' hZ h3.rebase) fun _ _ _ h => by
      rw [h2] at h
      exact h.glue (fun e => ⟨hpl e, e⟩) hmk h3
  | exit id => exact ⟨.exit id, s, G', rfl, h1, h2, h3⟩
  | ret => exact ⟨.ret, s, G', rfl, h1, h2, h3⟩
theorem SWp.unroll {P : Program} [Tabs P] [Lim] {Q : Ex → ASt → Prop} {st : ASt} {x : SCode} (h : LoopAt P x Q st) : SWp P (.loop x) Q st := by
  intro hm code hc w0 M Z G a w hZ hR
  cases code with
  | loop cx =>
    simp only [slimC, SCode.loop.injEq] at hc
    exact headR_loop (h hm cx hc w0 M Z G a w hZ hR)
  | region id ops draw => simp only [slimC] at hc; (repeat' split at hc) <;> simp at hc
  | _ => simp [slimC] at hc
end Go.Proofs.YtbmmdkbinlnogaaDoor.Aw
