/- What unpacking with less room, with other bits behind, with bits cut off gives. -/
import Derived.Test.YtokdmakljdhjiaaDoorInfM
namespace Go.Proofs.YtokdmakljdhjiaaDoor.Aw
open Go
set_option linter.unusedSimpArgs false
set_option linter.unusedVariables false

/-- Of readings with room for m1 and for m2: if the second answers, then the first answers the same, or tells that it is too much. -/
def RelR (m1 a : Nat) (r1 : BR (List UInt8)) (o : List UInt8) (j : Nat) : Prop := a ≤ o.length ∧ (o.length ≤ m1 → r1 = .ok o j) ∧ (m1 < o.length → a ≤ m1 → r1 = .no 4)

theorem runT_rel {B : List Nat} {m1 m2 : Nat} (hm : m1 ≤ m2) {d : List Nat} {out o : List UInt8} {s i j : Nat} (h : (runT m2 d out s).run B i = .ok o j) : RelR m1 out.length ((runT m1 d out s).run B i) o j := by
  simp only [runT, run_bnd] at h ⊢
  cases h1 : (lenT s).run B i with
  | no e => rw [h1] at h; cases h
  | ok n k =>
    rw [h1] at h
    simp only [BR.bnd, run_bnd] at h ⊢
    cases h2 : (nxtT d 15 0 0).run B k with
    | no e => rw [h2] at h; cases h
    | ok t k2 =>
      rw [h2] at h
      simp only [BR.bnd, run_bnd] at h ⊢
      cases h3 : (disT t).run B k2 with
      | no e => rw [h3] at h; cases h
      | ok z k3 =>
        rw [h3] at h
        simp only [BR.bnd] at h ⊢
        by_cases c : out.length < z
        · rw [if_pos c] at h; cases h
        · rw [if_neg c] at h ⊢
          by_cases c2 : m2 < out.length + n
          · rw [if_pos c2] at h; cases h
          · rw [if_neg c2] at h
            simp only [BT.run, BR.ok.injEq] at h
            obtain ⟨rfl, rfl⟩ := h
            refine ⟨by rw [length_cpy]; omega, fun q => ?_, fun q _ => ?_⟩
            · rw [length_cpy] at q; rw [if_neg (by omega)]; rfl
            · rw [length_cpy] at q; rw [if_pos (by omega)]; rfl

theorem symT_rel {B : List Nat} {m1 m2 : Nat} (hm : m1 ≤ m2) {l d : List Nat} : ∀ {f : Nat} {out o : List UInt8} {i j : Nat}, (symT l d m2 f out).run B i = .ok o j → RelR m1 out.length ((symT l d m1 f out).run B i) o j := by
  intro f
  induction f with
  | zero => intro out o i j h; simp [symT, BT.run] at h
  | succ f ih =>
    intro out o i j h
    simp only [symT, run_bnd] at h ⊢
    cases h1 : (nxtT l 15 0 0).run B i with
    | no e => rw [h1] at h; cases h
    | ok s k =>
      rw [h1] at h
      simp only [BR.bnd] at h ⊢
      by_cases c : s < 256
      · rw [if_pos c] at h ⊢
        by_cases c2 : m2 ≤ out.length
        · rw [if_pos c2] at h; cases h
        · rw [if_neg c2] at h
          have := ih h
          rw [List.length_append, List.length_singleton] at this
          obtain ⟨q1, q2, q3⟩ := this
          refine ⟨by omega, fun q => ?_, fun q q' => ?_⟩
          · rw [if_neg (by omega)]; exact q2 q
          · by_cases c3 : m1 ≤ out.length
            · rw [if_pos c3]; rfl
            · rw [if_neg c3]; exact q3 q (by omega)
      · rw [if_neg c] at h ⊢
        by_cases c2 : s = 256
        · rw [if_pos c2] at h ⊢
          simp only [BT.run, BR.ok.injEq] at h
          obtain ⟨rfl, rfl⟩ := h
          exact ⟨Nat.le_refl _, fun _ => rfl, fun q q' => by omega⟩
        · rw [if_neg c2, run_bnd] at h ⊢
          cases h2 : (runT m2 d out (s - 257)).run B k with
          | no e => rw [h2] at h; cases h
          | ok o2 k2 =>
            obtain ⟨p1, p2, p3⟩ := runT_rel hm h2
            rw [h2] at h
            obtain ⟨q1, q2, q3⟩ := ih h
            refine ⟨by omega, fun q => ?_, fun q q' => ?_⟩
            · rw [p2 (by omega)]; exact q2 q
            · by_cases c3 : o2.length ≤ m1
              · rw [p2 c3]; exact q3 q c3
              · rw [p3 (by omega) q']; rfl

theorem stoT_rel {B : List Nat} {m1 m2 : Nat} {out o : List UInt8} {i j : Nat} (h : (stoT m2 out).run B i = .ok o j) : RelR m1 out.length ((stoT m1 out).run B i) o j := by
  have hb : ∀ (n : Nat) {bs : List UInt8} {i j : Nat}, (bytT n).run B i = .ok bs j → bs.length = n := by
    intro n
    induction n with
    | zero => intro bs i j h; simp only [bytT, BT.run, BR.ok.injEq] at h; rw [← h.1]; rfl
    | succ n ih =>
      intro bs i j h
      rw [bytT, run_bnd] at h
      cases h1 : (numT 8).run B i with
      | no e => rw [h1] at h; cases h
      | ok x k =>
        rw [h1] at h
        simp only [BR.bnd, run_bnd] at h
        cases h2 : (bytT n).run B k with
        | no e => rw [h2] at h; cases h
        | ok r k2 =>
          have := ih h2
          rw [h2] at h
          simp only [BR.bnd, BT.run, BR.ok.injEq] at h
          rw [← h.1, List.length_cons, this]
  simp only [stoT, BT.run, run_bnd] at h ⊢
  cases h1 : (numT ((i + 7) / 8 * 8 - i)).run B i with
  | no e => rw [h1] at h; cases h
  | ok s k =>
    rw [h1] at h
    simp only [BR.bnd, run_bnd] at h ⊢
    cases h2 : (numT 16).run B k with
    | no e => rw [h2] at h; cases h
    | ok n k2 =>
      rw [h2] at h
      simp only [BR.bnd, run_bnd] at h ⊢
      cases h3 : (numT 16).run B k2 with
      | no e => rw [h3] at h; cases h
      | ok m k3 =>
        rw [h3] at h
        simp only [BR.bnd] at h ⊢
        by_cases c : n + m ≠ 65535
        · rw [if_pos c] at h; cases h
        · rw [if_neg c, run_bnd] at h ⊢
          cases h4 : (bytT n).run B k3 with
          | no e => rw [h4] at h; cases h
          | ok bs k4 =>
            have hl := hb n h4
            rw [h4] at h
            simp only [BR.bnd] at h ⊢
            by_cases c2 : m2 < out.length + n
            · rw [if_pos c2] at h; cases h
            · rw [if_neg c2] at h
              simp only [BT.run, BR.ok.injEq] at h
              obtain ⟨rfl, rfl⟩ := h
              refine ⟨by rw [List.length_append]; omega, fun q => ?_, fun q _ => ?_⟩
              · rw [List.length_append] at q; rw [if_neg (by omega)]; rfl
              · rw [List.length_append] at q; rw [if_pos (by omega)]; rfl

theorem bodT_rel {B : List Nat} {m1 m2 : Nat} (hm : m1 ≤ m2) {F s : Nat} {out o : List UInt8} {i j : Nat} (h : (bodT m2 F out s).run B i = .ok o j) : RelR m1 out.length ((bodT m1 F out s).run B i) o j := by
  unfold bodT at h ⊢
  by_cases c0 : s = 0
  · rw [if_pos c0] at h ⊢; exact stoT_rel h
  · rw [if_neg c0] at h ⊢
    by_cases c1 : s = 1
    · rw [if_pos c1] at h ⊢; exact symT_rel hm h
    · rw [if_neg c1] at h ⊢
      by_cases c2 : s = 2
      · rw [if_pos c2, run_bnd] at h ⊢
        cases h1 : tolT.run B i with
        | no e => rw [h1] at h; cases h
        | ok p k => rw [h1] at h; exact symT_rel hm h
      · rw [if_neg c2] at h; cases h

theorem infT_rel {B : List Nat} {m1 m2 : Nat} (hm : m1 ≤ m2) {F : Nat} : ∀ {f : Nat} {out o : List UInt8} {i j : Nat}, (infT m2 F f out).run B i = .ok o j → RelR m1 out.length ((infT m1 F f out).run B i) o j := by
  intro f
  induction f with
  | zero => intro out o i j h; simp [infT, BT.run] at h
  | succ f ih =>
    intro out o i j h
    simp only [infT, blkT, run_bnd] at h ⊢
    cases h1 : (numT 3).run B i with
    | no e => rw [h1] at h; cases h
    | ok s k =>
      rw [h1] at h
      simp only [BR.bnd, run_bnd] at h ⊢
      cases h2 : (bodT m2 F out (s / 2)).run B k with
      | no e => rw [h2] at h; cases h
      | ok o2 k2 =>
        obtain ⟨p1, p2, p3⟩ := bodT_rel hm h2
        rw [h2] at h
        simp only [BR.bnd, BT.run] at h
        by_cases c : decide (s % 2 = 1) = true
        · rw [if_pos c] at h
          simp only [BT.run, BR.ok.injEq] at h
          obtain ⟨rfl, rfl⟩ := h
          refine ⟨p1, fun q => ?_, fun q q' => ?_⟩
          · rw [p2 q]; simp only [BR.bnd, BT.run, if_pos c]
          · rw [p3 q q']
        · rw [if_neg c] at h
          obtain ⟨q1, q2, q3⟩ := ih h
          refine ⟨by omega, fun q => ?_, fun q q' => ?_⟩
          · rw [p2 (by omega)]; simp only [BR.bnd, BT.run, if_neg c]; exact q2 q
          · by_cases c3 : o2.length ≤ m1
            · rw [p2 c3]; simp only [BR.bnd, BT.run, if_neg c]; exact q3 q c3
            · rw [p3 (by omega) q']

theorem infR_ok {F m used : Nat} {b o : List UInt8} (h : infR F b m = (o, used, 0)) (hs : ∀ e, (infT m F F []).run (bitsL b) 0 = .no e → e ≠ 0) : ∃ j, (infT m F F []).run (bitsL b) 0 = .ok o j ∧ used = (j + 7) / 8 ∧ j ≤ 8 * b.length := by
  unfold infR at h
  cases h1 : (infT m F F []).run (bitsL b) 0 with
  | no e =>
    rw [h1] at h
    simp only [gotR, Prod.mk.injEq] at h
    exact absurd h.2.2 (hs e h1)
  | ok o2 j =>
    have := (run_ok h1).2 (Nat.zero_le _)
    rw [length_bitsL] at this
    rw [h1] at h
    simp only [gotR, Prod.mk.injEq] at h
    exact ⟨j, by rw [h.1], h.2.1.symm, this⟩
theorem infR_eq {F m j : Nat} {b o : List UInt8} (h : (infT m F F []).run (bitsL b) 0 = .ok o j) : infR F b m = (o, (j + 7) / 8, 0) := by rw [infR, h]; rfl
theorem infR_no {F m e : Nat} {b : List UInt8} (h : (infT m F F []).run (bitsL b) 0 = .no e) : infR F b m = ([], 0, e) := by rw [infR, h]; rfl
theorem bitsL_take_get {b : List UInt8} {k n : Nat} (hk : k ≤ b.length) (hn : n < 8 * k) : (bitsL (b.take k)).getD n 0 = (bitsL b).getD n 0 := by
  rw [bitsL_get (by rw [List.length_take]; omega), bitsL_get (by omega), bitAt, bitAt]
  have : (b.take k).getD (n / 8) 0 = b.getD (n / 8) 0 := by
    simp only [List.getD]; rw [List.getElem?_take, if_pos (by omega)]
  rw [this]

theorem infR_short {F m j cut : Nat} {b o : List UInt8} (h : (infT m F F []).run (bitsL b) 0 = .ok o j) (hj : j ≤ 8 * b.length) (hc : cut < (j + 7) / 8) : infR F (b.take cut) m = ([], 0, 2) := by
  refine infR_no (run_short (B := bitsL b) (j := j) (a := o) ?_ ?_ (Nat.zero_le _) h)
  · rw [length_bitsL, List.length_take]; omega
  · intro n hn
    rw [length_bitsL, List.length_take] at hn
    exact bitsL_take_get (by omega) (by omega)
theorem infR_behind {F m j : Nat} {b o c : List UInt8} (h : (infT m F F []).run (bitsL b) 0 = .ok o j) (hj : j ≤ 8 * b.length) : infR F (b.take ((j + 7) / 8) ++ c) m = (o, (j + 7) / 8, 0) := by
  refine infR_eq (run_same (B := bitsL b) ?_ ?_ h)
  · rw [length_bitsL, List.length_append, List.length_take]; omega
  · intro n hn
    have hk : (j + 7) / 8 ≤ b.length := by omega
    rw [bitsL_append, ← bitsL_take_get hk (by omega)]
    simp only [List.getD]
    rw [List.getElem?_append_left (by rw [length_bitsL, List.length_take]; omega)]
theorem infR_less {F m j less : Nat} {b o : List UInt8} (h : (infT m F F []).run (bitsL b) 0 = .ok o j) (hm : o.length ≤ m) (hl : less < o.length) : infR F b less = ([], 0, 4) := by
  obtain ⟨_, _, q⟩ := infT_rel (m1 := less) (by omega) h
  exact infR_no (q hl (Nat.zero_le _))
theorem infR_just {F m j : Nat} {b o : List UInt8} (h : (infT m F F []).run (bitsL b) 0 = .ok o j) (hm : o.length ≤ m) : infR F b o.length = (o, (j + 7) / 8, 0) := by
  obtain ⟨_, q, _⟩ := infT_rel (m1 := o.length) hm h
  exact infR_eq (q (Nat.le_refl _))
end Go.Proofs.YtokdmakljdhjiaaDoor.Aw
