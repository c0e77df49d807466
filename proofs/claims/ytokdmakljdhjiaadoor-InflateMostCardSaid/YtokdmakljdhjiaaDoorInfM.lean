/- What is read bit by bit: trees that ask for bits; inflate as one. -/
import Derived.Test.YtokdmakljdhjiaaDoorTreeB
namespace Go.Proofs.YtokdmakljdhjiaaDoor.Aw
open Go
set_option linter.unusedSimpArgs false
set_option linter.unusedVariables false

/-- A reading: an answer, a fault, a question for the place, a question for the next bit. -/
inductive BT (α : Type) where
  | ret (a : α) : BT α
  | err (e : Nat) : BT α
  | pos (k : Nat → BT α) : BT α
  | bit (k : Nat → BT α) : BT α
/-- What comes of it: an answer and the place behind, or a fault. -/
inductive BR (α : Type) where
  | ok (a : α) (i : Nat) : BR α
  | no (e : Nat) : BR α
def BR.bnd {α β : Type} : BR α → (α → Nat → BR β) → BR β
  | .ok a i, f => f a i
  | .no e, _ => .no e
def BT.bnd {α β : Type} : BT α → (α → BT β) → BT β
  | .ret a, f => f a
  | .err e, _ => .err e
  | .pos k, f => .pos fun i => (k i).bnd f
  | .bit k, f => .bit fun x => (k x).bnd f
def BT.run {α : Type} (B : List Nat) : BT α → Nat → BR α
  | .ret a, i => .ok a i
  | .err e, _ => .no e
  | .pos k, i => (k i).run B i
  | .bit k, i => if i < B.length then (k (B.getD i 0)).run B (i + 1) else .no 2
theorem run_bnd {α β : Type} {B : List Nat} {f : α → BT β} : ∀ {t : BT α} {i : Nat}, (t.bnd f).run B i = (t.run B i).bnd fun a j => (f a).run B j
  | .ret _, _ => rfl
  | .err _, _ => rfl
  | .pos k, i => by simp only [BT.bnd, BT.run]; exact run_bnd
  | .bit k, i => by
    simp only [BT.bnd, BT.run]
    split
    · exact run_bnd
    · rfl
theorem run_ok {α : Type} {B : List Nat} {a : α} {j : Nat} : ∀ {t : BT α} {i : Nat}, t.run B i = .ok a j → i ≤ j ∧ (i ≤ B.length → j ≤ B.length)
  | .ret _, i, h => by simp only [BT.run, BR.ok.injEq] at h; omega
  | .err _, _, h => by simp [BT.run] at h
  | .pos k, i, h => by simp only [BT.run] at h; exact run_ok h
  | .bit k, i, h => by
    simp only [BT.run] at h
    split at h
    · have := run_ok h; exact ⟨by omega, fun _ => this.2 (by omega)⟩
    · cases h
/-- What stands behind the place changes nothing. -/
theorem run_same {α : Type} {B B' : List Nat} {a : α} {j : Nat} (hl : j ≤ B'.length) (hB : ∀ n, n < j → B'.getD n 0 = B.getD n 0) : ∀ {t : BT α} {i : Nat}, t.run B i = .ok a j → t.run B' i = .ok a j
  | .ret _, i, h => h
  | .err _, _, h => by simp [BT.run] at h
  | .pos k, i, h => by simp only [BT.run] at h ⊢; exact run_same hl hB h
  | .bit k, i, h => by
    simp only [BT.run] at h ⊢
    split at h
    · have := run_ok h
      rw [if_pos (by omega), hB i (by omega)]
      exact run_same hl hB h
    · cases h
/-- What is cut off ahead of the place is too short. -/
theorem run_short {α : Type} {B B' : List Nat} {a : α} {j : Nat} (hl : B'.length < j) (hB : ∀ n, n < B'.length → B'.getD n 0 = B.getD n 0) : ∀ {t : BT α} {i : Nat}, i ≤ B'.length → t.run B i = .ok a j → t.run B' i = .no 2
  | .ret _, i, hi, h => by simp only [BT.run, BR.ok.injEq] at h; omega
  | .err _, _, _, h => by simp [BT.run] at h
  | .pos k, i, hi, h => by simp only [BT.run] at h ⊢; exact run_short hl hB hi h
  | .bit k, i, hi, h => by
    simp only [BT.run] at h ⊢
    split at h
    · by_cases e : i < B'.length
      · rw [if_pos e, hB i e]
        exact run_short hl hB (by omega) h
      · rw [if_neg e]
    · cases h

/-- The number of the next n bits. -/
def numT : Nat → BT Nat
  | 0 => .ret 0
  | n + 1 => .bit fun x => (numT n).bnd fun y => .ret (x + 2 * y)
theorem run_numT {B : List Nat} : ∀ {n i : Nat}, i ≤ B.length → (numT n).run B i = if i + n ≤ B.length then .ok (numB ((B.drop i).take n)) (i + n) else .no 2
  | 0, i, h => by rw [if_pos (by omega)]; rfl
  | n + 1, i, h => by
    simp only [numT, BT.run, run_bnd]
    by_cases c : i < B.length
    · rw [if_pos c, run_numT (by omega)]
      by_cases c2 : i + (n + 1) ≤ B.length
      · rw [if_pos (by omega), if_pos c2]
        simp only [BR.bnd, BT.run]
        have : B.drop i = B.getD i 0 :: B.drop (i + 1) := by
          rw [List.drop_eq_getElem_cons c]; simp [List.getD, List.getElem?_eq_getElem c]
        rw [this, List.take_succ_cons, numB]
        congr 1
        omega
      · rw [if_neg (by omega), if_neg c2]; rfl
    · rw [if_neg c, if_neg (by omega)]
theorem numAt_eq {b : List UInt8} {i n : Nat} (h : i + n ≤ 8 * b.length) : numB (((bitsL b).drop i).take n) = numAt b i n := by
  unfold numAt
  congr 1
  apply List.ext_getElem?
  intro k
  rw [List.getElem?_take]
  by_cases hk : k < n
  · have hj : i + k < 8 * b.length := by omega
    have hj2 : i + k < (bitsL b).length := by rw [length_bitsL]; exact hj
    rw [if_pos hk, List.getElem?_drop, List.getElem?_map, List.getElem?_range hk, List.getElem?_eq_getElem hj2]
    simp only [Option.map_some, Option.some.injEq]
    rw [← bitsL_get hj]
    simp [List.getD, List.getElem?_eq_getElem hj2]
  · rw [if_neg hk, List.getElem?_eq_none (by simp; omega)]
theorem run_num {b : List UInt8} {i n : Nat} (h : i ≤ 8 * b.length) : (numT n).run (bitsL b) i = if i + n ≤ 8 * b.length then .ok (numAt b i n) (i + n) else .no 2 := by
  rw [run_numT (by rw [length_bitsL]; exact h), length_bitsL]
  split
  · rw [numAt_eq (by assumption)]
  · rfl

/-- The next symbol of a code. -/
def nxtT (l : List Nat) : Nat → Nat → Nat → BT Nat
  | 0, _, _ => .err 3
  | f + 1, n, v => .bit fun x =>
    if kraft l ≤ (2 * v + x) * 2 ^ (15 - (n + 1)) then .err 3 else
    if 2 * v + x - fr l (n + 1) < cn l (n + 1) then .ret ((syms l l.length (n + 1)).getD (2 * v + x - fr l (n + 1)) 0) else
    nxtT l f (n + 1) (2 * v + x)
def nxtR (i : Nat) (r : Nat × Nat × Nat) : BR Nat := if r.2.2 = 0 then .ok r.1 (i + r.2.1) else .no r.2.2
theorem run_nxtT {l B : List Nat} {i : Nat} : ∀ {f n v : Nat}, (nxtT l f n v).run B (i + n) = nxtR i (nxt l (B.drop i) f n v)
  | 0, n, v => rfl
  | f + 1, n, v => by
    have hg : (B.drop i).getD n 0 = B.getD (i + n) 0 := by simp [List.getD]
    rw [nxt, hg]
    simp only [nxtT, BT.run]
    by_cases c : i + n < B.length
    · rw [if_pos c, if_neg (show ¬ (B.drop i).length ≤ n by rw [List.length_drop]; omega)]
      split
      · rfl
      · split
        · simp only [BT.run, nxtR, if_true, Nat.add_assoc]
        · exact run_nxtT (n := n + 1)
    · rw [if_neg c, if_pos (show (B.drop i).length ≤ n by rw [List.length_drop]; omega)]; rfl
theorem run_nxt {l B : List Nat} {i : Nat} : (nxtT l 15 0 0).run B i = nxtR i (nxt l (B.drop i) 15 0 0) := run_nxtT (n := 0)

def plusT (v n : Nat) : BT Nat := (numT n).bnd fun x => .ret (v + x)
def lenT (s : Nat) : BT Nat := if 29 ≤ s then .err 3 else if s = 28 then .ret 258 else if s < 8 then .ret (3 + s) else plusT (3 + (4 + s % 4) * 2 ^ (s / 4 - 1)) (s / 4 - 1)
def disT (s : Nat) : BT Nat := if 30 ≤ s then .err 3 else if s < 4 then .ret (1 + s) else plusT (1 + (2 + s % 2) * 2 ^ (s / 2 - 1)) (s / 2 - 1)
theorem plusT_le {B : List Nat} (hB : ∀ x ∈ B, x < 2) {v n i a j : Nat} (h : (plusT v n).run B i = .ok a j) : a < v + 2 ^ n := by
  rw [plusT, run_bnd] at h
  have key : ∀ (n i a j : Nat), (numT n).run B i = .ok a j → a < 2 ^ n := by
    intro n
    induction n with
    | zero => intro i a j h; simp only [numT, BT.run, BR.ok.injEq] at h; omega
    | succ n ih =>
      intro i a j h
      simp only [numT, BT.run, run_bnd] at h
      split at h
      · rename_i hi
        have hx : B.getD i 0 < 2 := by
          have : B.getD i 0 = B[i] := by simp [List.getD, List.getElem?_eq_getElem hi]
          rw [this]; exact hB _ (List.getElem_mem hi)
        cases hr : (numT n).run B (i + 1) with
        | no e => rw [hr] at h; cases h
        | ok y k =>
          rw [hr] at h
          have := ih _ _ _ hr
          simp only [BR.bnd, BT.run, BR.ok.injEq] at h
          rw [Nat.pow_succ]; omega
      · cases h
  cases hr : (numT n).run B i with
  | no e => rw [hr] at h; cases h
  | ok y k =>
    rw [hr] at h
    have := key _ _ _ _ hr
    simp only [BR.bnd, BT.run, BR.ok.injEq] at h
    omega
theorem plusT_ge {B : List Nat} {v n i a j : Nat} (h : (plusT v n).run B i = .ok a j) : v ≤ a := by
  rw [plusT, run_bnd] at h
  cases hr : (numT n).run B i with
  | no e => rw [hr] at h; cases h
  | ok y k => rw [hr] at h; simp only [BR.bnd, BT.run, BR.ok.injEq] at h; omega
theorem lenT_le {b : List UInt8} {s i a j : Nat} (h : (lenT s).run (bitsL b) i = .ok a j) : a ≤ 258 := by
  unfold lenT at h
  split at h
  · cases h
  · split at h
    · simp only [BT.run, BR.ok.injEq] at h; omega
    · split at h
      · simp only [BT.run, BR.ok.injEq] at h; omega
      · have := plusT_le bitsL_lt h
        rename_i h1 h2 h3
        have hk : s / 4 - 1 = 1 ∨ s / 4 - 1 = 2 ∨ s / 4 - 1 = 3 ∨ s / 4 - 1 = 4 ∨ s / 4 - 1 = 5 := by omega
        have hm : s % 4 < 4 := by omega
        generalize s % 4 = m at *
        generalize s / 4 - 1 = k at *
        rcases hk with rfl | rfl | rfl | rfl | rfl <;> omega
theorem disT_le {b : List UInt8} {s i a j : Nat} (h : (disT s).run (bitsL b) i = .ok a j) : 1 ≤ a ∧ a ≤ 32768 := by
  unfold disT at h
  split at h
  · cases h
  · split at h
    · simp only [BT.run, BR.ok.injEq] at h; omega
    · have h2 := plusT_le bitsL_lt h
      have h3 : 1 ≤ a := by
        rw [plusT, run_bnd] at h
        cases hr : (numT (s / 2 - 1)).run (bitsL b) i with
        | no e => rw [hr] at h; cases h
        | ok y k => rw [hr] at h; simp only [BR.bnd, BT.run, BR.ok.injEq] at h; omega
      refine ⟨h3, ?_⟩
      have hk : 2 ^ (s / 2 - 1) ≤ 8192 := two_pow_le (n := s / 2 - 1) (m := 13) (by omega)
      have hm : s % 2 < 2 := by omega
      generalize s % 2 = m at *
      generalize 2 ^ (s / 2 - 1) = p at *
      obtain rfl | rfl : m = 0 ∨ m = 1 := by omega
      · omega
      · omega
/-- Bytes that are copied, one behind the other, from so far back. -/
def cpy (out : List UInt8) (k : Nat) : Nat → List UInt8
  | 0 => out
  | n + 1 => cpy (out ++ [out.getD (out.length - k) 0]) k n
theorem length_cpy {k : Nat} : ∀ {n : Nat} {out : List UInt8}, (cpy out k n).length = out.length + n
  | 0, _ => rfl
  | n + 1, out => by rw [cpy, length_cpy, List.length_append, List.length_singleton]; omega
theorem cpy_snoc {k : Nat} : ∀ {n : Nat} {out : List UInt8}, cpy out k (n + 1) = cpy out k n ++ [(cpy out k n).getD ((cpy out k n).length - k) 0]
  | 0, out => rfl
  | n + 1, out => by
    show cpy (out ++ [out.getD (out.length - k) 0]) k (n + 1) = _
    rw [cpy_snoc]; rfl
def runT (most : Nat) (d : List Nat) (out : List UInt8) (s : Nat) : BT (List UInt8) :=
  (lenT s).bnd fun n => (nxtT d 15 0 0).bnd fun t => (disT t).bnd fun k =>
    if out.length < k then .err 3 else if most < out.length + n then .err 4 else .ret (cpy out k n)
def symT (l d : List Nat) (most : Nat) : Nat → List UInt8 → BT (List UInt8)
  | 0, _ => .err 2
  | f + 1, out => (nxtT l 15 0 0).bnd fun s =>
    if s < 256 then (if most ≤ out.length then .err 4 else symT l d most f (out ++ [UInt8.ofNat s])) else
    if s = 256 then .ret out else (runT most d out (s - 257)).bnd fun o => symT l d most f o
def bytT : Nat → BT (List UInt8)
  | 0 => .ret []
  | n + 1 => (numT 8).bnd fun x => (bytT n).bnd fun r => .ret (UInt8.ofNat x :: r)
def stoT (most : Nat) (out : List UInt8) : BT (List UInt8) :=
  .pos fun i => (numT ((i + 7) / 8 * 8 - i)).bnd fun _ => (numT 16).bnd fun n => (numT 16).bnd fun m =>
    if n + m ≠ 65535 then .err 3 else (bytT n).bnd fun bs => if most < out.length + n then .err 4 else .ret (out ++ bs)
def tells : List Nat := [16, 17, 18, 0, 8, 7, 9, 6, 10, 5, 11, 4, 12, 3, 13, 2, 14, 1, 15]
def telT : Nat → Nat → List Nat → BT (List Nat)
  | 0, _, l => .ret l
  | n + 1, k, l => (numT 3).bnd fun x => telT n (k + 1) (l.set (tells.getD k 0) x)
def lsV (s : Nat) (l : List Nat) : Nat := if s = 16 then l.getD (l.length - 1) 0 else if s = 17 ∨ s = 18 then 0 else s
def lsN (s : Nat) : Nat := if s = 16 ∨ s = 17 then 3 else if s = 18 then 11 else 1
def lsB (s : Nat) : Nat := if s = 16 then 2 else if s = 17 then 3 else if s = 18 then 7 else 0
def lsT (th : List Nat) (n : Nat) : Nat → List Nat → BT (List Nat)
  | 0, _ => .err 3
  | f + 1, l => if n ≤ l.length then .ret l else (nxtT th 15 0 0).bnd fun s =>
    if s = 16 ∧ l = [] then .err 3 else (plusT (lsN s) (lsB s)).bnd fun t => if n < l.length + t then .err 3 else lsT th n f (l ++ List.replicate t (lsV s l))
/-- Are lengths full? (At most 15 each.) -/
def fulN (l : List Nat) : Bool := decide (l.length ≤ 320 ∧ kraft l = 32768)
def fewN (l : List Nat) : Bool := decide (l.sum ≤ 1) || fulN l
def codN (l d : List Nat) : Bool := decide (l.getD 256 0 ≠ 0) && fulN l && fewN d
def tlrT (n : Nat) : BT (List Nat) := (telT n 0 (List.replicate 19 0)).bnd fun th => if fulN th = true then .ret th else .err 3
def tolT : BT (List Nat × List Nat) :=
  (numT 14).bnd fun c => if 286 < c % 32 + 257 ∨ 30 < c / 32 % 32 + 1 then .err 3 else
    (tlrT (c / 1024 + 4)).bnd fun th => (lsT th (c % 32 + 257 + (c / 32 % 32 + 1)) 400 []).bnd fun ls =>
      if codN (ls.take (c % 32 + 257)) (ls.drop (c % 32 + 257)) = true then .ret (ls.take (c % 32 + 257), ls.drop (c % 32 + 257)) else .err 3
def fixL : List Nat := List.replicate 144 8 ++ (List.replicate 112 9 ++ (List.replicate 24 7 ++ List.replicate 8 8))
def fixD : List Nat := List.replicate 32 5
def bodT (most F : Nat) (out : List UInt8) (h : Nat) : BT (List UInt8) :=
  if h = 0 then stoT most out else if h = 1 then symT fixL fixD most F out else
  if h = 2 then tolT.bnd fun p => symT p.1 p.2 most F out else .err 3
def blkT (most F : Nat) (out : List UInt8) : BT (Bool × List UInt8) :=
  (numT 3).bnd fun h => (bodT most F out (h / 2)).bnd fun o => .ret (decide (h % 2 = 1), o)
def infT (most F : Nat) : Nat → List UInt8 → BT (List UInt8)
  | 0, _ => .err 2
  | f + 1, out => (blkT most F out).bnd fun p => if p.1 = true then .ret p.2 else infT most F f p.2
/-- The answer: bytes, how many were taken, what is wrong. -/
def gotR : BR (List UInt8) → List UInt8 × Nat × Nat
  | .ok o j => (o, (j + 7) / 8, 0)
  | .no e => ([], 0, e)
def infR (F : Nat) (b : List UInt8) (most : Nat) : List UInt8 × Nat × Nat := gotR ((infT most F F []).run (bitsL b) 0)

theorem run_bytT {b : List UInt8} : ∀ {n j : Nat}, j ≤ b.length → (bytT n).run (bitsL b) (8 * j) = if j + n ≤ b.length then .ok ((b.drop j).take n) (8 * (j + n)) else .no 2
  | 0, j, h => by rw [if_pos (by omega)]; rfl
  | n + 1, j, h => by
    simp only [bytT, run_bnd]
    rw [run_num (by omega)]
    by_cases c : j < b.length
    · rw [if_pos (by omega)]
      simp only [BR.bnd, run_bnd]
      rw [show 8 * j + 8 = 8 * (j + 1) by omega, run_bytT (by omega)]
      by_cases c2 : j + (n + 1) ≤ b.length
      · rw [if_pos (by omega), if_pos c2]
        simp only [BR.bnd, BT.run]
        have e : b.drop j = b.getD j 0 :: b.drop (j + 1) := by
          rw [List.drop_eq_getElem_cons c]; simp [List.getD, List.getElem?_eq_getElem c]
        have e2 : UInt8.ofNat (numAt b (8 * j) 8) = b.getD j 0 := by
          have h1 : (bitsL b).drop (8 * j) = bitsB (b.getD j 0) ++ bitsL (b.drop (j + 1)) := by
            conv => lhs; rw [← List.take_append_drop j b, bitsL_append]
            rw [List.drop_append, length_bitsL, List.length_take, Nat.min_eq_left (by omega), Nat.sub_self, List.drop_zero, List.drop_of_length_le (by rw [length_bitsL, List.length_take]; omega), List.nil_append, e]
            simp [bitsL]
          rw [← numAt_eq (by omega), h1, List.take_append_of_le_length (by rw [length_bitsB]; exact Nat.le_refl _), List.take_of_length_le (by rw [length_bitsB]; exact Nat.le_refl _)]
          have := (b.getD j 0).toNat_lt
          have h2 : numB (bitsB (b.getD j 0)) = (b.getD j 0).toNat := numB_bitsB
          rw [h2]; exact UInt8.ofNat_toNat
        rw [e2, e, List.take_succ_cons]
        congr 1
        omega
      · rw [if_neg (by omega), if_neg c2]
    · rw [if_neg (by omega), if_neg (by omega)]; rfl
where
  numB_bitsB {c : UInt8} : numB (bitsB c) = c.toNat := by
    have := c.toNat_lt
    simp only [bitsB, show List.range 8 = [0, 1, 2, 3, 4, 5, 6, 7] from rfl, List.map_cons, List.map_nil, numB]
    omega

theorem run_stoT {b : List UInt8} {most : Nat} {out : List UInt8} {i : Nat} (hi : i ≤ 8 * b.length) :
    (stoT most out).run (bitsL b) i =
      if 8 * b.length < (i + 7) / 8 * 8 + 16 then .no 2 else if 8 * b.length < (i + 7) / 8 * 8 + 32 then .no 2 else
      if numAt b ((i + 7) / 8 * 8) 16 + numAt b ((i + 7) / 8 * 8 + 16) 16 ≠ 65535 then .no 3 else
      if b.length < (i + 7) / 8 + 4 + numAt b ((i + 7) / 8 * 8) 16 then .no 2 else
      if most < out.length + numAt b ((i + 7) / 8 * 8) 16 then .no 4 else
      .ok (out ++ (b.drop ((i + 7) / 8 + 4)).take (numAt b ((i + 7) / 8 * 8) 16)) (8 * ((i + 7) / 8 + 4 + numAt b ((i + 7) / 8 * 8) 16)) := by
  obtain ⟨q, hq⟩ : ∃ q, q = (i + 7) / 8 := ⟨_, rfl⟩
  rw [← hq]
  simp only [stoT, BT.run, run_bnd]
  rw [← hq, run_num hi, if_pos (by omega)]
  simp only [BR.bnd, run_bnd]
  rw [show i + (q * 8 - i) = q * 8 by omega, run_num (by omega)]
  by_cases c1 : 8 * b.length < q * 8 + 16
  · rw [if_neg (by omega), if_pos c1]
  · rw [if_pos (by omega), if_neg c1]
    simp only [BR.bnd, run_bnd]
    rw [run_num (by omega)]
    by_cases c2 : 8 * b.length < q * 8 + 32
    · rw [if_neg (by omega), if_pos c2]
    · rw [if_pos (by omega), if_neg c2]
      simp only [BR.bnd]
      split
      · rfl
      · rw [run_bnd, show q * 8 + 16 + 16 = 8 * (q + 4) by omega, run_bytT (by omega)]
        by_cases c3 : b.length < q + 4 + numAt b (q * 8) 16
        · rw [if_neg (by omega), if_pos c3]; rfl
        · rw [if_pos (by omega), if_neg c3]
          simp only [BR.bnd]
          split
          · rfl
          · rfl
/-- Each error in a reading is one. -/
inductive BT.safe {α : Type} : BT α → Prop where
  | ret (a : α) : BT.safe (.ret a)
  | err (e : Nat) (h : e ≠ 0 ∧ e ≤ 10) : BT.safe (.err e)
  | pos (k : Nat → BT α) (h : ∀ i, BT.safe (k i)) : BT.safe (.pos k)
  | bit (k : Nat → BT α) (h : ∀ x, BT.safe (k x)) : BT.safe (.bit k)
theorem safe_bnd {α β : Type} {f : α → BT β} {t : BT α} (h : t.safe) (h2 : ∀ a, (f a).safe) : (t.bnd f).safe := by
  induction h with
  | ret a => exact h2 a
  | err e h => exact .err e h
  | pos k _ ih => exact .pos _ ih
  | bit k _ ih => exact .bit _ ih
theorem safe_run {α : Type} {B : List Nat} {e : Nat} {t : BT α} (h : t.safe) : ∀ {i : Nat}, t.run B i = .no e → e ≠ 0 ∧ e ≤ 10 := by
  induction h with
  | ret a => intro i h; simp [BT.run] at h
  | err e h => intro i h2; simp only [BT.run, BR.no.injEq] at h2; subst h2; exact h
  | pos k _ ih => intro i h2; simp only [BT.run] at h2; exact ih _ h2
  | bit k _ ih =>
    intro i h2
    simp only [BT.run] at h2
    split at h2
    · exact ih _ h2
    · simp only [BR.no.injEq] at h2; omega
theorem safe_ret {α : Type} {a : α} : (BT.ret a).safe := .ret a
theorem safe_ite {α : Type} {c : Prop} [Decidable c] {a b : BT α} (ha : a.safe) (hb : b.safe) : (if c then a else b).safe := by split <;> assumption
theorem safe_err {α : Type} {e : Nat} (h : e ≠ 0 ∧ e ≤ 10) : (BT.err e : BT α).safe := .err e h
theorem safe_num : ∀ {n : Nat}, (numT n).safe
  | 0 => .ret _
  | _ + 1 => .bit _ fun _ => safe_bnd safe_num fun _ => .ret _
theorem safe_nxt {l : List Nat} : ∀ {f n v : Nat}, (nxtT l f n v).safe
  | 0, _, _ => safe_err (by omega)
  | _ + 1, _, _ => .bit _ fun _ => safe_ite (safe_err (by omega)) (safe_ite safe_ret safe_nxt)
theorem safe_plus {v n : Nat} : (plusT v n).safe := safe_bnd safe_num fun _ => safe_ret
theorem safe_len {s : Nat} : (lenT s).safe := safe_ite (safe_err (by omega)) (safe_ite safe_ret (safe_ite safe_ret safe_plus))
theorem safe_dis {s : Nat} : (disT s).safe := safe_ite (safe_err (by omega)) (safe_ite safe_ret safe_plus)
theorem safe_runT {most s : Nat} {d : List Nat} {out : List UInt8} : (runT most d out s).safe := by
  unfold runT
  exact safe_bnd safe_len fun _ => safe_bnd safe_nxt fun _ => safe_bnd safe_dis fun _ => safe_ite (safe_err (by omega)) (safe_ite (safe_err (by omega)) safe_ret)
theorem safe_sym {l d : List Nat} {most : Nat} : ∀ (f : Nat) (out : List UInt8), (symT l d most f out).safe := by
  intro f
  induction f with
  | zero => intro out; exact safe_err (by omega)
  | succ f ih =>
    intro out
    rw [symT]
    refine safe_bnd safe_nxt fun s => ?_
    by_cases h : s < 256
    · rw [if_pos h]
      by_cases h2 : most ≤ out.length
      · rw [if_pos h2]; exact safe_err (by omega)
      · rw [if_neg h2]; exact ih _
    · rw [if_neg h]
      by_cases h2 : s = 256
      · rw [if_pos h2]; exact safe_ret
      · rw [if_neg h2]; exact safe_bnd safe_runT fun o => ih o
theorem safe_byt : ∀ (n : Nat), (bytT n).safe := by
  intro n
  induction n with
  | zero => exact safe_ret
  | succ n ih => rw [bytT]; exact safe_bnd safe_num fun x => safe_bnd ih fun r => safe_ret
theorem safe_pos {α : Type} {k : Nat → BT α} (h : ∀ i, (k i).safe) : (BT.pos k).safe := .pos k h
theorem safe_sto {most : Nat} {out : List UInt8} : (stoT most out).safe := by
  unfold stoT
  refine safe_pos fun i => ?_
  refine safe_bnd safe_num fun _ => ?_
  refine safe_bnd safe_num fun n => ?_
  refine safe_bnd safe_num fun m => ?_
  by_cases h : n + m ≠ 65535
  · rw [if_pos h]; exact safe_err (by omega)
  · rw [if_neg h]
    refine safe_bnd (safe_byt n) fun bs => ?_
    by_cases h2 : most < out.length + n
    · rw [if_pos h2]; exact safe_err (by omega)
    · rw [if_neg h2]; exact safe_ret
theorem safe_tel : ∀ (n k : Nat) (l : List Nat), (telT n k l).safe := by
  intro n
  induction n with
  | zero => intro k l; exact safe_ret
  | succ n ih => intro k l; rw [telT]; exact safe_bnd safe_num fun x => ih _ _
theorem safe_ls {th : List Nat} {n : Nat} : ∀ (f : Nat) (l : List Nat), (lsT th n f l).safe := by
  intro f
  induction f with
  | zero => intro l; exact safe_err (by omega)
  | succ f ih =>
    intro l
    rw [lsT]
    by_cases h : n ≤ l.length
    · rw [if_pos h]; exact safe_ret
    · rw [if_neg h]
      refine safe_bnd safe_nxt fun s => ?_
      by_cases h2 : s = 16 ∧ l = []
      · rw [if_pos h2]; exact safe_err (by omega)
      · rw [if_neg h2]
        refine safe_bnd safe_plus fun t => ?_
        by_cases h3 : n < l.length + t
        · rw [if_pos h3]; exact safe_err (by omega)
        · rw [if_neg h3]; exact ih _
theorem safe_tlr {n : Nat} : (tlrT n).safe := by
  unfold tlrT
  refine safe_bnd (safe_tel _ _ _) fun th => ?_
  by_cases h2 : fulN th = true
  · rw [if_pos h2]; exact safe_ret
  · rw [if_neg h2]; exact safe_err (by omega)
theorem safe_tol : tolT.safe := by
  unfold tolT
  refine safe_bnd safe_num fun c => ?_
  by_cases h : 286 < c % 32 + 257 ∨ 30 < c / 32 % 32 + 1
  · rw [if_pos h]; exact safe_err (by omega)
  · rw [if_neg h]
    refine safe_bnd safe_tlr fun th => safe_bnd (safe_ls _ _) fun ls => ?_
    by_cases h3 : codN (ls.take (c % 32 + 257)) (ls.drop (c % 32 + 257)) = true
    · rw [if_pos h3]; exact safe_ret
    · rw [if_neg h3]; exact safe_err (by omega)
theorem safe_bod {most F h : Nat} {out : List UInt8} : (bodT most F out h).safe := by
  unfold bodT
  by_cases h0 : h = 0
  · rw [if_pos h0]; exact safe_sto
  · rw [if_neg h0]
    by_cases h1 : h = 1
    · rw [if_pos h1]; exact safe_sym _ _
    · rw [if_neg h1]
      by_cases h2 : h = 2
      · rw [if_pos h2]; exact safe_bnd safe_tol fun p => safe_sym _ _
      · rw [if_neg h2]; exact safe_err (by omega)
theorem safe_blk {most F : Nat} {out : List UInt8} : (blkT most F out).safe := by
  unfold blkT
  exact safe_bnd safe_num fun h => safe_bnd safe_bod fun o => safe_ret
theorem safe_inf {most F : Nat} : ∀ (f : Nat) (out : List UInt8), (infT most F f out).safe := by
  intro f
  induction f with
  | zero => intro out; exact safe_err (by omega)
  | succ f ih =>
    intro out
    rw [infT]
    refine safe_bnd safe_blk fun p => ?_
    by_cases h : p.1 = true
    · rw [if_pos h]; exact safe_ret
    · rw [if_neg h]; exact ih _
end Go.Proofs.YtokdmakljdhjiaaDoor.Aw
