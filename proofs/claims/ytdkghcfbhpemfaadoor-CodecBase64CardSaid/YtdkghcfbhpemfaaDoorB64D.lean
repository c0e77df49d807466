/- Unbase64 against drayageref01.Unbase64: what is decoded. -/
import Derived.Test.YtdkghcfbhpemfaaDoorB64C
namespace Go.Proofs.YtdkghcfbhpemfaaDoor.Aw
open Go
set_option linter.unusedSimpArgs false
set_option linter.unusedVariables false

/-- What was read so far: the number of the bits that are left, how many they are, the bytes. -/
def dstep (x : Nat × Nat × List UInt8) (c : UInt8) : Nat × Nat × List UInt8 :=
  if 8 ≤ x.2.1 + 6 then ((64 * x.1 + sgn c) % 2 ^ (x.2.1 + 6 - 8), x.2.1 + 6 - 8, x.2.2 ++ [UInt8.ofNat ((64 * x.1 + sgn c) / 2 ^ (x.2.1 + 6 - 8))]) else (64 * x.1 + sgn c, x.2.1 + 6, x.2.2)
def decF (w : List UInt8) : Nat × Nat × List UInt8 := w.foldl dstep (0, 0, [])
/-- How many signs stand ahead of those that fill up: at most two. -/
def strip (s : List UInt8) : Nat := if s.length = 0 then 0 else if s.getD (s.length - 1) 0 = 61 then (if s.getD (s.length - 2) 0 = 61 then s.length - 2 else s.length - 1) else s.length

theorem dstep_out (w : List UInt8) : ∀ (n k : Nat) (o : List UInt8), w.foldl dstep (n, k, o) = ((w.foldl dstep (n, k, [])).1, (w.foldl dstep (n, k, [])).2.1, o ++ (w.foldl dstep (n, k, [])).2.2) := by
  induction w with
  | nil => intro n k o; simp
  | cons c w ih =>
    intro n k o
    simp only [List.foldl_cons, dstep]
    by_cases h : 8 ≤ k + 6
    · rw [if_pos h, if_pos h]
      rw [ih _ _ (o ++ _), ih _ _ ([] ++ _)]
      simp
    · rw [if_neg h, if_neg h]
      exact ih _ _ o

theorem ds0 (a : Nat) (o : List UInt8) (ha : a < 64) : dstep (0, 0, o) (sg a) = (a, 6, o) := by
  unfold dstep
  rw [if_neg (by show ¬ 8 ≤ 0 + 6; omega), sgn_sg _ ha]
  show (64 * 0 + a, 0 + 6, o) = (a, 6, o)
  rw [show 64 * 0 + a = a by omega]
theorem ds6 (a b : Nat) (o : List UInt8) (ha : a < 64) (hb : b < 64) : dstep (a, 6, o) (sg b) = (b % 16, 4, o ++ [UInt8.ofNat (a * 4 + b / 16)]) := by
  unfold dstep
  rw [if_pos (by show 8 ≤ 6 + 6; omega), sgn_sg _ hb]
  show ((64 * a + b) % 16, 4, o ++ [UInt8.ofNat ((64 * a + b) / 16)]) = _
  rw [show (64 * a + b) % 16 = b % 16 by omega, show (64 * a + b) / 16 = a * 4 + b / 16 by omega]
theorem ds4 (q c : Nat) (o : List UInt8) (hq : q < 16) (hc : c < 64) : dstep (q, 4, o) (sg c) = (c % 4, 2, o ++ [UInt8.ofNat (q * 16 + c / 4)]) := by
  unfold dstep
  rw [if_pos (by show 8 ≤ 4 + 6; omega), sgn_sg _ hc]
  show ((64 * q + c) % 4, 2, o ++ [UInt8.ofNat ((64 * q + c) / 4)]) = _
  rw [show (64 * q + c) % 4 = c % 4 by omega, show (64 * q + c) / 4 = q * 16 + c / 4 by omega]
theorem ds2 (q d : Nat) (o : List UInt8) (hq : q < 4) (hd : d < 64) : dstep (q, 2, o) (sg d) = (0, 0, o ++ [UInt8.ofNat (q * 64 + d)]) := by
  unfold dstep
  rw [if_pos (by show 8 ≤ 2 + 6; omega), sgn_sg _ hd]
  show ((64 * q + d) % 1, 0, o ++ [UInt8.ofNat ((64 * q + d) / 1)]) = _
  rw [show (64 * q + d) % 1 = 0 by omega, show (64 * q + d) / 1 = q * 64 + d by omega]
theorem dec4 (a b c d : Nat) (ha : a < 64) (hb : b < 64) (hc : c < 64) (hd : d < 64) : [sg a, sg b, sg c, sg d].foldl dstep (0, 0, []) = (0, 0, [UInt8.ofNat (a * 4 + b / 16), UInt8.ofNat (b % 16 * 16 + c / 4), UInt8.ofNat (c % 4 * 64 + d)]) := by
  simp only [List.foldl_cons, List.foldl_nil]
  rw [ds0 _ _ ha, ds6 _ _ _ ha hb, ds4 _ _ _ (by omega) hc, ds2 _ _ _ (by omega) hd]; rfl
theorem dec3 (a b c : Nat) (ha : a < 64) (hb : b < 64) (hc : c < 64) : ([sg a, sg b, sg c].foldl dstep (0, 0, [])).2.2 = [UInt8.ofNat (a * 4 + b / 16), UInt8.ofNat (b % 16 * 16 + c / 4)] := by
  simp only [List.foldl_cons, List.foldl_nil]
  rw [ds0 _ _ ha, ds6 _ _ _ ha hb, ds4 _ _ _ (by omega) hc]; rfl
theorem dec2 (a b : Nat) (ha : a < 64) (hb : b < 64) : ([sg a, sg b].foldl dstep (0, 0, [])).2.2 = [UInt8.ofNat (a * 4 + b / 16)] := by
  simp only [List.foldl_cons, List.foldl_nil]
  rw [ds0 _ _ ha, ds6 _ _ _ ha hb]; rfl
theorem ofNat_eq {x : UInt8} {n : Nat} (h : n % 256 = x.toNat) : UInt8.ofNat n = x := UInt8.toNat_inj.1 (by rw [UInt8.toNat_ofNat']; exact h)

theorem dec_four3 (x y z : UInt8) : (four [x, y, z]).foldl dstep (0, 0, []) = (0, 0, [x, y, z]) := by
  have hx : x.toNat < 256 := x.toNat_lt
  have hy : y.toNat < 256 := y.toNat_lt
  have hz : z.toNat < 256 := z.toNat_lt
  have e : four [x, y, z] = [sg (x.toNat / 4), sg (x.toNat % 4 * 16 + y.toNat / 16), sg (y.toNat % 16 * 4 + z.toNat / 64), sg (z.toNat % 64)] := by
    simp only [four, t0 _ _ _ hx hy hz, t1 _ _ _ hx hy hz, t2 _ _ _ hx hy hz, t3 _ _ _ hx hy hz]
  rw [e, dec4 _ _ _ _ (by omega) (by omega) (by omega) (by omega), ofNat_eq (x := x) (by omega), ofNat_eq (x := y) (by omega), ofNat_eq (x := z) (by omega)]
theorem four2_eq (x y : UInt8) : four [x, y] = [sg (x.toNat / 4), sg (x.toNat % 4 * 16 + y.toNat / 16), sg (y.toNat % 16 * 4), 61] := by
  have hx : x.toNat < 256 := x.toNat_lt
  have hy : y.toNat < 256 := y.toNat_lt
  have a := t0 x.toNat y.toNat 0 hx hy (by omega)
  have b := t1 x.toNat y.toNat 0 hx hy (by omega)
  have c := t2 x.toNat y.toNat 0 hx hy (by omega)
  simp only [Nat.add_zero, Nat.zero_div] at a b c
  simp only [four, a, b, c]
theorem four1_eq (x : UInt8) : four [x] = [sg (x.toNat / 4), sg (x.toNat % 4 * 16), 61, 61] := by
  have hx : x.toNat < 256 := x.toNat_lt
  have a := t0 x.toNat 0 0 hx (by omega) (by omega)
  have b := t1 x.toNat 0 0 hx (by omega) (by omega)
  simp only [Nat.add_zero, Nat.zero_div, Nat.zero_mul] at a b
  simp only [four, a, b]

theorem strip_app (q t : List UInt8) (h : 2 ≤ t.length) : strip (q ++ t) = q.length + strip t := by
  have hl : (q ++ t).length = q.length + t.length := List.length_append
  have e1 : (q ++ t).length - 1 = q.length + (t.length - 1) := by omega
  have e2 : (q ++ t).length - 2 = q.length + (t.length - 2) := by omega
  have g : ∀ j, (q ++ t).getD (q.length + j) 0 = t.getD j 0 := fun j => by
    simp only [List.getD]
    rw [List.getElem?_append_right (by omega), Nat.add_sub_cancel_left]
  have h1 : ¬ (q ++ t).length = 0 := by omega
  have h2 : ¬ t.length = 0 := by omega
  unfold strip
  rw [if_neg h1, if_neg h2, e1, e2, g, g, hl]
  split
  · split <;> omega
  · rfl

/-- What is read of the signs of bytes. -/
theorem dec_b64 : ∀ (n : Nat) (b : List UInt8), (b.length + 2) / 3 = n → ((b64 b).take (strip (b64 b))).all isSg = true ∧ (decF ((b64 b).take (strip (b64 b)))).2.2 = b
  | 0, b, h => by
    have : b = [] := List.eq_nil_of_length_eq_zero (by omega)
    subst this; exact ⟨rfl, rfl⟩
  | n + 1, [], h => by simp at h
  | n + 1, [x], h => by
    have hx : x.toNat < 256 := x.toNat_lt
    have e : b64 [x] = four [x] := by simp [b64, b64K]
    have hs : strip (four [x]) = 2 := by rw [four1_eq]; rfl
    have ht : (four [x]).take 2 = [sg (x.toNat / 4), sg (x.toNat % 4 * 16)] := by rw [four1_eq]; rfl
    rw [e, hs, ht]
    refine ⟨?_, ?_⟩
    · simp only [List.all_cons, List.all_nil, isSg_sg _ (show x.toNat / 4 < 64 by omega), isSg_sg _ (show x.toNat % 4 * 16 < 64 by omega), Bool.and_self]
    · unfold decF
      rw [dec2 _ _ (by omega) (by omega), ofNat_eq (x := x) (by omega)]
  | n + 1, [x, y], h => by
    have hx : x.toNat < 256 := x.toNat_lt
    have hy : y.toNat < 256 := y.toNat_lt
    have e : b64 [x, y] = four [x, y] := by simp [b64, b64K]
    have hne := sg_ne (y.toNat % 16 * 4) (by omega)
    have hs : strip (four [x, y]) = 3 := by rw [four2_eq]; simp [strip, hne]
    have ht : (four [x, y]).take 3 = [sg (x.toNat / 4), sg (x.toNat % 4 * 16 + y.toNat / 16), sg (y.toNat % 16 * 4)] := by rw [four2_eq]; rfl
    rw [e, hs, ht]
    refine ⟨?_, ?_⟩
    · simp only [List.all_cons, List.all_nil, isSg_sg _ (show x.toNat / 4 < 64 by omega), isSg_sg _ (show x.toNat % 4 * 16 + y.toNat / 16 < 64 by omega), isSg_sg _ (show y.toNat % 16 * 4 < 64 by omega), Bool.and_self]
    · unfold decF
      rw [dec3 _ _ _ (by omega) (by omega) (by omega), ofNat_eq (x := x) (by omega), ofNat_eq (x := y) (by omega)]
  | n + 1, x :: y :: z :: r, h => by
    have hx : x.toNat < 256 := x.toNat_lt
    have hy : y.toNat < 256 := y.toNat_lt
    have hz : z.toNat < 256 := z.toNat_lt
    have e : four [x, y, z] = [sg (x.toNat / 4), sg (x.toNat % 4 * 16 + y.toNat / 16), sg (y.toNat % 16 * 4 + z.toNat / 64), sg (z.toNat % 64)] := by
      simp only [four, t0 _ _ _ hx hy hz, t1 _ _ _ hx hy hz, t2 _ _ _ hx hy hz, t3 _ _ _ hx hy hz]
    have hall : (four [x, y, z]).all isSg = true := by
      rw [e]
      simp only [List.all_cons, List.all_nil, isSg_sg _ (show x.toNat / 4 < 64 by omega), isSg_sg _ (show x.toNat % 4 * 16 + y.toNat / 16 < 64 by omega), isSg_sg _ (show y.toNat % 16 * 4 + z.toNat / 64 < 64 by omega), isSg_sg _ (show z.toNat % 64 < 64 by omega), Bool.and_self]
    obtain ⟨i1, i2⟩ := dec_b64 n r (by simp only [List.length_cons] at h; omega)
    have hlr : (b64 r).length = 4 * ((r.length + 2) / 3) := length_b64K r _
    have key : (b64 (x :: y :: z :: r)).take (strip (b64 (x :: y :: z :: r))) = four [x, y, z] ++ (b64 r).take (strip (b64 r)) := by
      rw [b64_cons]
      cases r with
      | nil =>
        have hb : b64 [] = [] := rfl
        have hs : strip (four [x, y, z]) = 4 := by
          rw [e]
          have hne := sg_ne (z.toNat % 64) (by omega)
          simp [strip, hne]
        rw [hb, List.append_nil, hs, List.take_of_length_le (by rw [length_four]; omega)]; simp
      | cons a r =>
        rw [strip_app _ _ (by rw [hlr]; simp only [List.length_cons]; omega), List.take_append, List.take_of_length_le (by omega)]
        congr 2; omega
    rw [key]
    refine ⟨by rw [List.all_append, hall, i1]; rfl, ?_⟩
    unfold decF at i2 ⊢
    rw [List.foldl_append, dec_four3, dstep_out, i2]; rfl

/-- What unb64 reads is what was written. -/
theorem b64_unb64 : ∀ (n : Nat) (s b : List UInt8), s.length = 4 * n → unb64 n s = some b → b64 b = s
  | 0, s, b, hl, h => by
    have : s = [] := List.eq_nil_of_length_eq_zero (by omega)
    subst this
    simp only [unb64, Option.some.injEq] at h
    rw [← h]; rfl
  | n + 1, s, b, hl, h => by
    rw [unb64] at h
    split at h
    · simp at h
    · rename_i hz
      rw [not_or] at hz
      obtain ⟨b', hb', rfl⟩ := Option.map_eq_some_iff.1 h
      have ih := b64_unb64 n (s.drop 4) b' (by rw [List.length_drop]; omega) hb'
      have hq : s.take 4 ++ s.drop 4 = s := List.take_append_drop 4 s
      have hl3 := length_three (s.take 4)
      have hz3 := three_le (s.take 4) (by rw [List.length_take]; omega)
      have hfour : four ((threeR (s.take 4)).1.take (threeR (s.take 4)).2) = s.take 4 := by
        have h0 := hz.1
        unfold threeR at h0 ⊢
        split
        · rename_i hh; rw [if_pos hh] at h0; simp at h0
        · rename_i hh
          rw [if_neg hh] at h0
          split
          · rename_i hh2
            rw [if_pos hh2] at h0
            split
            · rename_i hh3; exact hh3
            · rename_i hh3; rw [if_neg hh3] at h0; simp at h0
          · rename_i hh2; rw [if_neg hh2] at h0; simp at h0
      generalize threeR (s.take 4) = p at hl3 hz3 hfour hz
      obtain ⟨l, z⟩ := p
      simp only at hl3 hz3 hfour hz ⊢
      match l, hl3, z, hz3, hfour, hz with
      | [x, y, w], _, 3, _, hfour, _ =>
        have : ([x, y, w].take 3 ++ b') = x :: y :: w :: b' := rfl
        have hf : four [x, y, w] = s.take 4 := hfour
        rw [this, b64_cons, ih, hf]
        exact hq
      | [x, y, w], _, 2, _, hfour, hz =>
        have hn : n = 0 := by omega
        subst hn
        have hd : s.drop 4 = [] := List.drop_of_length_le (by omega)
        simp only [unb64, Option.some.injEq] at hb'
        subst hb'
        have e : b64 [x, y] = four [x, y] := by simp [b64, b64K]
        have hf : four [x, y] = s.take 4 := hfour
        rw [show ([x, y, w].take 2 ++ []) = [x, y] from rfl, e, hf]
        rw [hd, List.append_nil] at hq
        exact hq
      | [x, y, w], _, 1, _, hfour, hz =>
        have hn : n = 0 := by omega
        subst hn
        have hd : s.drop 4 = [] := List.drop_of_length_le (by omega)
        simp only [unb64, Option.some.injEq] at hb'
        subst hb'
        have e : b64 [x] = four [x] := by simp [b64, b64K]
        have hf : four [x] = s.take 4 := hfour
        rw [show ([x, y, w].take 1 ++ []) = [x] from rfl, e, hf]
        rw [hd, List.append_nil] at hq
        exact hq
      | [x, y, w], _, 0, _, _, hz => exact absurd rfl hz.1
      | [x, y, w], _, z + 4, hz3, _, _ => omega
end Go.Proofs.YtdkghcfbhpemfaaDoor.Aw
