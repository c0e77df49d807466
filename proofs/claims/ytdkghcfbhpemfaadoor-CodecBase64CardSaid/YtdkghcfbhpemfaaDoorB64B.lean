/- What Unbase64 makes of Base64's signs. -/
import Derived.Test.YtdkghcfbhpemfaaDoorB64A
namespace Go.Proofs.YtdkghcfbhpemfaaDoor.Aw
open Go
set_option linter.unusedSimpArgs false
set_option linter.unusedVariables false

theorem sg_ne (n : Nat) (h : n < 64) : sg n ≠ 61 := by
  have : ∀ n : Fin 64, sg n.1 ≠ 61 := by decide +kernel
  exact this ⟨n, h⟩
theorem sgi_sg (n : Nat) (h : n < 64) : sgi (sg n) = n := by
  have : ∀ n : Fin 64, sgi (sg n.1) = n.1 := by decide +kernel
  exact this ⟨n, h⟩
theorem sgn_sg (n : Nat) (h : n < 64) : sgn (sg n) = n := by unfold sgn; rw [sgi_sg n h]; rfl
theorem isSg_sg (n : Nat) (h : n < 64) : isSg (sg n) = true := decide_eq_true (by rw [sgi_sg n h]; omega)
theorem had4 (a b c d : UInt8) (h : d ≠ 61) : had [a, b, c, d] = [a, b, c, d] := by
  simp [had, Lib.trimRightB, List.dropWhile, h]
theorem had3 (a b c : UInt8) (h : c ≠ 61) : had [a, b, c, 61] = [a, b, c] := by
  have e : (c == 61) = false := beq_eq_false_iff_ne.2 h
  simp [had, Lib.trimRightB, List.dropWhile, e]
theorem had2 (a b : UInt8) (h : b ≠ 61) : had [a, b, 61, 61] = [a, b] := by
  have e : (b == 61) = false := beq_eq_false_iff_ne.2 h
  simp [had, Lib.trimRightB, List.dropWhile, e]

theorem threeR_3 (x y z : UInt8) : threeR (four [x, y, z]) = ([x, y, z], 3) := by
  have hx := x.toNat_lt
  have hy := y.toNat_lt
  have hz := z.toNat_lt
  obtain ⟨v, hv⟩ : ∃ v, v = x.toNat * 65536 + y.toNat * 256 + z.toNat := ⟨_, rfl⟩
  have e : four [x, y, z] = [sg (v / 262144 % 64), sg (v / 4096 % 64), sg (v / 64 % 64), sg (v % 64)] := by rw [hv]; rfl
  have m1 : v / 262144 % 64 < 64 := Nat.mod_lt _ (by omega)
  have m2 : v / 4096 % 64 < 64 := Nat.mod_lt _ (by omega)
  have m3 : v / 64 % 64 < 64 := Nat.mod_lt _ (by omega)
  have m4 : v % 64 < 64 := Nat.mod_lt _ (by omega)
  have hh : had (four [x, y, z]) = four [x, y, z] := by rw [e]; exact had4 _ _ _ _ (sg_ne _ m4)
  have hb : bits (four [x, y, z]) 4 = v := by
    rw [e]
    simp only [bits, List.length_cons, List.length_nil, List.getD_cons_zero, List.getD_cons_succ, sgn_sg _ m1, sgn_sg _ m2, sgn_sg _ m3, sgn_sg _ m4]
    simp
    omega
  have h3 : bytes3 v = [x, y, z] := by
    simp only [bytes3, List.cons.injEq, and_true]
    refine ⟨?_, ?_, ?_⟩ <;> apply UInt8.toNat_inj.1 <;> rw [UInt8.toNat_ofNat'] <;> simp only [Nat.reducePow] <;> omega
  have ha : (four [x, y, z]).all isSg = true := by
    rw [e]
    simp only [List.all_cons, List.all_nil, isSg_sg _ m1, isSg_sg _ m2, isSg_sg _ m3, isSg_sg _ m4, Bool.and_self]
  unfold threeR
  rw [hh, length_four, if_neg (by omega), ha, hb, h3]
  simp
theorem threeR_2 (x y : UInt8) : ∃ l, threeR (four [x, y]) = (l, 2) ∧ l.take 2 = [x, y] := by
  have hx := x.toNat_lt
  have hy := y.toNat_lt
  obtain ⟨v, hv⟩ : ∃ v, v = x.toNat * 65536 + y.toNat * 256 := ⟨_, rfl⟩
  have e : four [x, y] = [sg (v / 262144 % 64), sg (v / 4096 % 64), sg (v / 64 % 64), 61] := by rw [hv]; rfl
  have m1 : v / 262144 % 64 < 64 := Nat.mod_lt _ (by omega)
  have m2 : v / 4096 % 64 < 64 := Nat.mod_lt _ (by omega)
  have m3 : v / 64 % 64 < 64 := Nat.mod_lt _ (by omega)
  have hh : had (four [x, y]) = [sg (v / 262144 % 64), sg (v / 4096 % 64), sg (v / 64 % 64)] := by rw [e]; exact had3 _ _ _ (sg_ne _ m3)
  have hb : bits [sg (v / 262144 % 64), sg (v / 4096 % 64), sg (v / 64 % 64)] 4 = v := by
    simp only [bits, List.length_cons, List.length_nil, List.getD_cons_zero, List.getD_cons_succ, sgn_sg _ m1, sgn_sg _ m2, sgn_sg _ m3]
    simp
    omega
  have h3 : (bytes3 v).take 2 = [x, y] := by
    simp only [bytes3, List.take_succ_cons, List.take_zero, List.cons.injEq, and_true]
    refine ⟨?_, ?_⟩ <;> apply UInt8.toNat_inj.1 <;> rw [UInt8.toNat_ofNat'] <;> simp only [Nat.reducePow] <;> omega
  have ha : [sg (v / 262144 % 64), sg (v / 4096 % 64), sg (v / 64 % 64)].all isSg = true := by
    simp only [List.all_cons, List.all_nil, isSg_sg _ m1, isSg_sg _ m2, isSg_sg _ m3, Bool.and_self]
  refine ⟨bytes3 v, ?_, h3⟩
  unfold threeR
  rw [hh, ha, hb]
  simp [h3]
theorem threeR_1 (x : UInt8) : ∃ l, threeR (four [x]) = (l, 1) ∧ l.take 1 = [x] := by
  have hx := x.toNat_lt
  obtain ⟨v, hv⟩ : ∃ v, v = x.toNat * 65536 := ⟨_, rfl⟩
  have e : four [x] = [sg (v / 262144 % 64), sg (v / 4096 % 64), 61, 61] := by rw [hv]; rfl
  have m1 : v / 262144 % 64 < 64 := Nat.mod_lt _ (by omega)
  have m2 : v / 4096 % 64 < 64 := Nat.mod_lt _ (by omega)
  have hh : had (four [x]) = [sg (v / 262144 % 64), sg (v / 4096 % 64)] := by rw [e]; exact had2 _ _ (sg_ne _ m2)
  have hb : bits [sg (v / 262144 % 64), sg (v / 4096 % 64)] 4 = v := by
    simp only [bits, List.length_cons, List.length_nil, List.getD_cons_zero, List.getD_cons_succ, sgn_sg _ m1, sgn_sg _ m2]
    simp
    omega
  have h3 : (bytes3 v).take 1 = [x] := by
    simp only [bytes3, List.take_succ_cons, List.take_zero, List.cons.injEq, and_true]
    apply UInt8.toNat_inj.1
    rw [UInt8.toNat_ofNat']
    simp only [Nat.reducePow]
    omega
  have ha : [sg (v / 262144 % 64), sg (v / 4096 % 64)].all isSg = true := by
    simp only [List.all_cons, List.all_nil, isSg_sg _ m1, isSg_sg _ m2, Bool.and_self]
  refine ⟨bytes3 v, ?_, h3⟩
  unfold threeR
  rw [hh, ha, hb]
  simp [h3]

theorem four_more (x y z : UInt8) (r : List UInt8) : four (x :: y :: z :: r) = four [x, y, z] := rfl
theorem b64K_front (x y z : UInt8) (r : List UInt8) (k : Nat) : b64K (x :: y :: z :: r) (k + 1) = four [x, y, z] ++ b64K r k := by
  induction k with
  | zero => simp [b64K, four_more]
  | succ k ih =>
    have e : (x :: y :: z :: r).drop (3 * (k + 1)) = r.drop (3 * k) := by rw [show 3 * (k + 1) = 3 * k + 3 by omega]; rfl
    rw [b64K, ih, e, List.append_assoc]
    rfl
theorem b64_cons (x y z : UInt8) (r : List UInt8) : b64 (x :: y :: z :: r) = four [x, y, z] ++ b64 r := by
  unfold b64
  rw [show ((x :: y :: z :: r).length + 2) / 3 = (r.length + 2) / 3 + 1 by simp only [List.length_cons]; omega, b64K_front]
theorem unb64_b64 : ∀ (n : Nat) (b : List UInt8), (b.length + 2) / 3 = n → unb64 n (b64 b) = some b
  | 0, b, h => by
    have : b = [] := List.eq_nil_of_length_eq_zero (by omega)
    subst this; rfl
  | n + 1, [], h => by simp at h
  | n + 1, [x], h => by
    have e : b64 [x] = four [x] := by simp [b64, b64K]
    have hn : n = 0 := by simp at h; omega
    subst hn
    obtain ⟨l, h1, h2⟩ := threeR_1 x
    rw [e, unb64, List.take_of_length_le (by rw [length_four]; omega), h1, length_four]
    simp [unb64, h2]
  | n + 1, [x, y], h => by
    have e : b64 [x, y] = four [x, y] := by simp [b64, b64K]
    have hn : n = 0 := by simp at h; omega
    subst hn
    obtain ⟨l, h1, h2⟩ := threeR_2 x y
    rw [e, unb64, List.take_of_length_le (by rw [length_four]; omega), h1, length_four]
    simp [unb64, h2]
  | n + 1, x :: y :: z :: r, h => by
    have ih := unb64_b64 n r (by simp only [List.length_cons] at h; omega)
    have t : (four [x, y, z] ++ b64 r).take 4 = four [x, y, z] := List.take_left' (length_four _)
    have d : (four [x, y, z] ++ b64 r).drop 4 = b64 r := List.drop_left' (length_four _)
    rw [b64_cons, unb64, t, d, threeR_3, ih]
    simp
theorem unbase64_b64 (b : List UInt8) : unbase64R (b64 b) = .tup [.sl false none (b.map u8), int 0] := by
  have hl : (b64 b).length = 4 * ((b.length + 2) / 3) := length_b64K b _
  unfold unbase64R
  rw [if_pos (by omega), show (b64 b).length / 4 = (b.length + 2) / 3 by omega, unb64_b64 _ b rfl]
end Go.Proofs.YtdkghcfbhpemfaaDoor.Aw
