/- Parts of the proof of GzipPacks. -/
import Derived.Test.YtbcncdpaigljeaaGreatDoorQGzipPacksBF
namespace Go.Proofs.YtbcncdpaigljeaaGreatDoor.Aw
open Go
set_option linter.unusedSimpArgs false
set_option linter.unusedVariables false
def cntB (s : Nat) (l : List Bt) : Nat := (l.flatMap (·.2)).count s
theorem cntB_nil {s : Nat} : cntB s [] = 0 := rfl
theorem cntB_append {s : Nat} {a b : List Bt} : cntB s (a ++ b) = cntB s a + cntB s b := by simp [cntB]
theorem cntB_cons {s : Nat} {x : Bt} {b : List Bt} : cntB s (x :: b) = x.2.count s + cntB s b := by simp [cntB]
theorem cntB_insR {s : Nat} {A : List Bt} {x : Bt} : cntB s (insR A x) = cntB s A + x.2.count s := by
 have h := List.takeWhile_append_dropWhile (p := fun p : Bt => decide (p.1 ≤ x.1)) (l := A)
 have h2 := congrArg (cntB s) h
 rw [cntB_append] at h2
 rw [insR, cntB_append, cntB_cons]
 omega
theorem cntB_foldl {s : Nat} : ∀ {S A : List Bt}, cntB s (S.foldl insR A) = cntB s A + cntB s S
 | [], A => by simp [cntB_nil]
 | x :: S, A => by rw [List.foldl_cons, cntB_foldl (S := S), cntB_insR, cntB_cons]; omega
theorem cntB_sortB {s : Nat} {S : List Bt} : cntB s (sortB S) = cntB s S := by rw [sortB, cntB_foldl, cntB_nil]; omega
theorem take_two {S P : List Bt} (hS : Srt S) (hP : Srt P) : ∀ {t : Nat}, t ≤ S.length + P.length → ∃ m p, m ≤ S.length ∧ p ≤ P.length ∧ m + p = t ∧ (sortB (S ++ P)).take t = sortB (S.take m ++ P.take p) ∧
   (∀ x ∈ S.take m, ∀ y ∈ P.drop p, x.1 ≤ y.1) ∧ (∀ y ∈ P.take p, ∀ x ∈ S.drop m, y.1 < x.1) := by
 have fin : ∀ {m p : Nat}, m ≤ S.length → p ≤ P.length → (∀ x ∈ S.take m, ∀ y ∈ P.drop p, x.1 ≤ y.1) → (∀ y ∈ P.take p, ∀ x ∈ S.drop m, y.1 < x.1) → (sortB (S ++ P)).take (m + p) = sortB (S.take m ++ P.take p) := by
   intro m p hm hp h1 h2
   have hc := sortB_cut (X1 := S.take m) (X2 := S.drop m) (Y1 := P.take p) (Y2 := P.drop p) (by rw [List.take_append_drop]; exact hS) (by rw [List.take_append_drop]; exact hP) h1 h2
   rw [List.take_append_drop, List.take_append_drop] at hc
   rw [hc, List.take_left']
   rw [length_sortB, List.length_append, List.length_take, List.length_take]
   omega
 intro t
 induction t with
 | zero => intro _; exact ⟨0, 0, Nat.zero_le _, Nat.zero_le _, rfl, by simp [sortB], by simp, by simp⟩
 | succ t ih =>
   intro ht
   obtain ⟨m, p, hm, hp, e, -, h1, h2⟩ := ih (by omega)
   have go : (m < S.length ∧ ∀ y ∈ P.drop p, (S.getD m (0, [])).1 ≤ y.1) ∨ (p < P.length ∧ ∀ x ∈ S.drop m, (P.getD p (0, [])).1 < x.1) := by
     by_cases cm : m < S.length
     · by_cases cp : p < P.length
       · have eS := List.drop_eq_getElem_cons cm
         have eP := List.drop_eq_getElem_cons cp
         have sS : Srt (S.drop m) := List.Pairwise.sublist (List.drop_sublist _ _) hS
         have sP : Srt (P.drop p) := List.Pairwise.sublist (List.drop_sublist _ _) hP
         rw [eS] at sS
         rw [eP] at sP
         have sS := List.pairwise_cons.1 sS
         have sP := List.pairwise_cons.1 sP
         have gS : S.getD m (0, []) = S[m] := by simp [List.getD, cm]
         have gP : P.getD p (0, []) = P[p] := by simp [List.getD, cp]
         rw [gS, gP, eS, eP]
         by_cases c : S[m].1 ≤ P[p].1
         · refine .inl ⟨cm, fun y hy => ?_⟩
           rcases List.mem_cons.1 hy with rfl | hy
           · exact c
           · have := sP.1 y hy; omega
         · refine .inr ⟨cp, fun x hx => ?_⟩
           rcases List.mem_cons.1 hx with rfl | hx
           · omega
           · have := sS.1 x hx; omega
       · refine .inl ⟨cm, fun y hy => ?_⟩
         rw [List.drop_eq_nil_of_le (by omega)] at hy
         simp at hy
     · refine .inr ⟨by omega, fun x hx => ?_⟩
       rw [List.drop_eq_nil_of_le (by omega)] at hx
       simp at hx
   rcases go with ⟨cm, h⟩ | ⟨cp, h⟩
   · have h1' : ∀ x ∈ S.take (m + 1), ∀ y ∈ P.drop p, x.1 ≤ y.1 := by
       intro x hx y hy
       rw [List.take_succ_eq_append_getElem cm, List.mem_append] at hx
       rcases hx with hx | hx
       · exact h1 x hx y hy
       · simp only [List.mem_singleton] at hx
         subst hx
         have := h y hy
         simpa [List.getD, cm] using this
     have h2' : ∀ y ∈ P.take p, ∀ x ∈ S.drop (m + 1), y.1 < x.1 := fun y hy x hx => h2 y hy x (by
       rw [List.drop_eq_getElem_cons cm]; exact List.mem_cons_of_mem _ hx)
     exact ⟨m + 1, p, cm, hp, by omega, by rw [show t + 1 = m + 1 + p by omega]; exact fin cm hp h1' h2', h1', h2'⟩
   · have h2' : ∀ y ∈ P.take (p + 1), ∀ x ∈ S.drop m, y.1 < x.1 := by
       intro y hy x hx
       rw [List.take_succ_eq_append_getElem cp, List.mem_append] at hy
       rcases hy with hy | hy
       · exact h2 y hy x hx
       · simp only [List.mem_singleton] at hy
         subst hy
         have := h x hx
         simpa [List.getD, cp] using this
     have h1' : ∀ x ∈ S.take m, ∀ y ∈ P.drop (p + 1), x.1 ≤ y.1 := fun x hx y hy => h1 x hx y (by
       rw [List.drop_eq_getElem_cons cp]; exact List.mem_cons_of_mem _ hy)
     exact ⟨m, p + 1, hm, cp, by omega, by rw [show t + 1 = m + (p + 1) by omega]; exact fin hm cp h1' h2', h1', h2'⟩
theorem length_prs : ∀ (l : List Bt), (prs l).length = l.length / 2
 | [] => rfl
 | [_] => by simp [prs]
 | p :: q :: r => by simp only [prs, List.length_cons, length_prs r]; omega
theorem take_prs : ∀ (p : Nat) (l : List Bt), 2 * p ≤ l.length → (prs l).take p = prs (l.take (2 * p))
 | 0, l, _ => by simp [prs]
 | p + 1, [], h => by simp at h
 | p + 1, [_], h => by simp only [List.length_cons, List.length_nil] at h; omega
 | p + 1, x :: y :: r, h => by
   rw [show 2 * (p + 1) = 2 * p + 1 + 1 by omega, List.take_succ_cons, List.take_succ_cons, prs, prs, List.take_succ_cons, take_prs p r (by simp only [List.length_cons] at h; omega)]
theorem cntB_prs {s : Nat} : ∀ (p : Nat) (l : List Bt), l.length = 2 * p → cntB s (prs l) = cntB s l
 | 0, l, h => by rw [List.length_eq_zero_iff.1 (by omega : l.length = 0)]; rfl
 | p + 1, [], h => by simp at h
 | p + 1, [_], h => by simp only [List.length_cons, List.length_nil] at h; omega
 | p + 1, x :: y :: r, h => by
   rw [prs, cntB_cons, cntB_prs p r (by simp only [List.length_cons] at h; omega), cntB_cons, cntB_cons, List.count_append]
   omega
theorem mem_prs_le : ∀ {l : List Bt} {q : Bt}, Srt l → q ∈ prs l → ∃ a ∈ l, ∃ b ∈ l, a.1 ≤ b.1 ∧ q.1 = a.1 + b.1
 | [], q, _, h => by simp [prs] at h
 | [_], q, _, h => by simp [prs] at h
 | x :: y :: r, q, hs, h => by
   have hx := List.pairwise_cons.1 hs
   have hy := List.pairwise_cons.1 hx.2
   rw [prs, List.mem_cons] at h
   rcases h with rfl | h
   · exact ⟨x, by simp, y, by simp, hx.1 y (by simp), rfl⟩
   · obtain ⟨a, ha, b, hb, hab, e⟩ := mem_prs_le hy.2 h
     exact ⟨a, by simp [ha], b, by simp [hb], hab, e⟩
theorem srt_prs : ∀ {l : List Bt}, Srt l → Srt (prs l)
 | [], _ => List.Pairwise.nil
 | [_], _ => List.Pairwise.nil
 | x :: y :: r, hs => by
   have hx := List.pairwise_cons.1 hs
   have hy := List.pairwise_cons.1 hx.2
   rw [prs]
   refine List.pairwise_cons.2 ⟨fun q hq => ?_, srt_prs hy.2⟩
   obtain ⟨a, ha, b, hb, -, e⟩ := mem_prs_le hy.2 hq
   have h1 := hx.1 a (by simp [ha])
   have h2 := hy.1 b hb
   simp only
   omega
theorem prs_cover : ∀ {p : Nat} {l : List Bt} {a : Bt}, Srt l → (∀ x ∈ l, 0 < x.1) → 2 * p ≤ l.length → a ∈ l.take (2 * p) → ∃ q ∈ (prs l).take p, a.1 < q.1
 | 0, l, a, _, _, _, h => by simp at h
 | p + 1, [], a, _, _, hl, h => by simp at hl
 | p + 1, [_], a, _, _, hl, h => by simp only [List.length_cons, List.length_nil] at hl; omega
 | p + 1, x :: y :: r, a, hs, hp, hl, h => by
   have hx := List.pairwise_cons.1 hs
   have hy := List.pairwise_cons.1 hx.2
   have px := hp x (by simp)
   have py := hp y (by simp)
   rw [show 2 * (p + 1) = 2 * p + 1 + 1 by omega, List.take_succ_cons, List.take_succ_cons] at h
   rw [prs, List.take_succ_cons]
   rcases List.mem_cons.1 h with rfl | h
   · exact ⟨_, List.mem_cons_self, by simp only; omega⟩
   rcases List.mem_cons.1 h with rfl | h
   · exact ⟨_, List.mem_cons_self, by simp only; omega⟩
   obtain ⟨q, hq, e⟩ := prs_cover hy.2 (fun x hx => hp x (by simp [hx])) (by simp only [List.length_cons] at hl; omega) h
   exact ⟨q, List.mem_cons_of_mem _ hq, e⟩
theorem pos_prs : ∀ {l : List Bt}, (∀ x ∈ l, 0 < x.1) → ∀ x ∈ prs l, 0 < x.1
 | [], _, x, h => by simp [prs] at h
 | [_], _, x, h => by simp [prs] at h
 | a :: b :: r, hp, x, h => by
   rw [prs, List.mem_cons] at h
   rcases h with rfl | h
   · have := hp a (by simp); simp only; omega
   · exact pos_prs (fun x hx => hp x (by simp [hx])) x h
def lvB (S : List Bt) : Nat → List Bt
 | 0 => S
 | k + 1 => sortB (S ++ prs (lvB S k))
theorem lv_pos {S : List Bt} (hp : ∀ x ∈ S, 0 < x.1) : ∀ (k : Nat), ∀ x ∈ lvB S k, 0 < x.1
 | 0 => hp
 | k + 1 => fun x hx => by
   rw [lvB, mem_sortB, List.mem_append] at hx
   rcases hx with hx | hx
   · exact hp x hx
   · exact pos_prs (lv_pos hp k) x hx
theorem lv_srt {S : List Bt} (hS : Srt S) : ∀ (k : Nat), Srt (lvB S k)
 | 0 => hS
 | k + 1 => sortB_srt _
inductive Ms (S : List Bt) : Nat → Nat → List Nat → Prop
 | zero (m : Nat) : m ≤ S.length → Ms S 0 m [m]
 | succ (k m p m' : Nat) (ms : List Nat) : m ≤ S.length → m' ≤ m → Ms S k (2 * p) (m' :: ms) → Ms S (k + 1) (m + p) (m :: m' :: ms)
theorem ms_le {S : List Bt} {k t m : Nat} {ms l : List Nat} (h : Ms S k t l) (e : l = m :: ms) : m ≤ S.length := by
 cases h with
 | zero m hm => cases e; exact hm
 | succ k m p m' ms hm _ _ => cases e; exact hm
theorem ms_ex {S : List Bt} (hS : Srt S) (hp : ∀ x ∈ S, 0 < x.1) : ∀ (k t : Nat), t ≤ (lvB S k).length →
   ∃ m ms, Ms S k t (m :: ms) ∧ (∀ s, cntB s ((lvB S k).take t) = ((m :: ms).map fun m => cntB s (S.take m)).sum) ∧ ∀ j, j < m → ∃ x ∈ (lvB S k).take t, x = S.getD j (0, [])
 | 0, t, ht => ⟨t, [], .zero t ht, fun s => by simp [lvB], fun j hj => ⟨_, by
     rw [lvB, List.mem_take_iff_getElem]
     exact ⟨j, by simp only [lvB] at ht; omega, rfl⟩, by simp [List.getD, show j < S.length by simp only [lvB] at ht; omega]⟩⟩
 | k + 1, t, ht => by
   have hs := lv_srt hS k
   rw [lvB, length_sortB, List.length_append] at ht
   obtain ⟨m, p, hm, hpp, e, htk, h1, h2⟩ := take_two hS (srt_prs hs) ht
   have hl := length_prs (lvB S k)
   have h2p : 2 * p ≤ (lvB S k).length := by omega
   obtain ⟨m', ms, hMs, hc, hj⟩ := ms_ex hS hp k (2 * p) h2p
   have hmm : m' ≤ m := by
     by_cases c : m < m'
     · obtain ⟨x, hx, e⟩ := hj m c
       have hmS : m < S.length := by
         have := ms_le hMs rfl
         omega
       obtain ⟨q, hq, hlt⟩ := prs_cover hs (lv_pos hp k) h2p hx
       have h3 := h2 q hq (S.getD m (0, [])) (by rw [List.drop_eq_getElem_cons hmS, List.getD_eq_getElem?_getD, List.getElem?_eq_getElem hmS]; exact List.mem_cons_self)
       rw [e] at hlt
       omega
     · omega
   refine ⟨m, m' :: ms, e ▸ .succ k m p m' ms hm hmm hMs, fun s => ?_, fun j hjm => ⟨_, ?_, rfl⟩⟩
   · rw [lvB, htk, cntB_sortB, cntB_append, take_prs p _ h2p, cntB_prs p _ (by rw [List.length_take]; omega), hc s]
     simp
   · rw [lvB, htk, mem_sortB, List.mem_append]
     left
     rw [List.mem_take_iff_getElem]
     exact ⟨j, by omega, by simp [List.getD, show j < S.length by omega]⟩
theorem lv_len {S : List Bt} : ∀ (k c : Nat), S.length ≤ c * 2 ^ k → 2 * S.length - c ≤ (lvB S k).length
 | 0, c, h => by simp only [lvB]; omega
 | k + 1, c, h => by
   have := lv_len k (2 * c) (by rw [Nat.pow_succ] at h; rw [Nat.mul_comm 2 c, Nat.mul_assoc, Nat.mul_comm 2 (2 ^ k)]; exact h)
   rw [lvB, length_sortB, List.length_append, length_prs]
   omega
theorem ms_top {S : List Bt} {n : Nat} (hn : 2 ≤ n) : ∀ {k t m : Nat} {ms : List Nat}, Ms S k t (m :: ms) → 2 * n - 2 ≤ t → n ≤ m := by
 intro k t m ms h
 generalize hl : m :: ms = l at h
 induction h generalizing m ms with
 | zero m0 h0 => cases hl; omega
 | succ k m0 p m' ms0 h1 h2 h3 ih =>
   cases hl
   intro ht
   by_cases c : n ≤ m0
   · exact c
   · have := ih rfl (by omega)
     omega
def lnM (ms : List Nat) (i : Nat) : Nat := ms.countP fun m => decide (i < m)
theorem lnM_le {ms : List Nat} {i : Nat} : lnM ms i ≤ ms.length := List.countP_le_length
theorem lnM_pos {m : Nat} {ms : List Nat} {i : Nat} (h : i < m) : 1 ≤ lnM (m :: ms) i := by
 unfold lnM
 rw [List.countP_cons, if_pos (decide_eq_true h)]
 omega
theorem ms_length {S : List Bt} {k t : Nat} {l : List Nat} (h : Ms S k t l) : l.length = k + 1 := by
 induction h with
 | zero => rfl
 | succ k m p m' ms h1 h2 h3 ih => rw [List.length_cons, ih]
theorem ms_zero {S : List Bt} {k t : Nat} {l : List Nat} (h : Ms S k t l) : ∀ {m : Nat} {ms : List Nat}, l = m :: ms → ∀ i, m ≤ i → lnM l i = 0 := by
 induction h with
 | zero m0 h0 =>
   intro m ms e i hi
   cases e
   simp [lnM]; omega
 | succ k m0 p m' ms0 h1 h2 h3 ih =>
   intro m ms e i hi
   cases e
   have := ih rfl i (by omega)
   unfold lnM at this ⊢
   rw [List.countP_cons, this, if_neg (by simp; omega)]
def sumN (n : Nat) (f : Nat → Nat) : Nat := ((List.range n).map f).sum
theorem sumN_succ {n : Nat} {f : Nat → Nat} : sumN (n + 1) f = sumN n f + f n := by simp [sumN, List.range_succ]
theorem sumN_congr {n : Nat} {f g : Nat → Nat} (h : ∀ i, i < n → f i = g i) : sumN n f = sumN n g := by
 induction n with
 | zero => rfl
 | succ n ih => rw [sumN_succ, sumN_succ, ih fun i hi => h i (by omega), h n (by omega)]
theorem sumN_mul {n c : Nat} {f : Nat → Nat} : sumN n (fun i => c * f i) = c * sumN n f := by
 induction n with
 | zero => rfl
 | succ n ih => rw [sumN_succ, sumN_succ, ih, Nat.mul_add]
theorem sumN_tail {m n c : Nat} {f : Nat → Nat} (hmn : m ≤ n) (h : ∀ i, m ≤ i → i < n → f i = c) : sumN n f = sumN m f + (n - m) * c := by
 induction n with
 | zero =>
   obtain rfl : m = 0 := by omega
   simp
 | succ n ih =>
   by_cases e : m = n + 1
   · subst e; simp
   · rw [sumN_succ, ih (by omega) fun i h1 h2 => h i h1 (by omega), h n (by omega) (by omega), show n + 1 - m = (n - m) + 1 by omega, Nat.add_mul]
     omega
theorem ms_kraft {S : List Bt} {k t : Nat} {l : List Nat} (h : Ms S k t l) : ∀ {m : Nat} {ms : List Nat}, l = m :: ms → ∀ n, m ≤ n → sumN n (fun i => 2 ^ (k + 1 - lnM l i)) + 2 ^ k * t = 2 ^ (k + 1) * n := by
 induction h with
 | zero m0 h0 =>
   intro m ms e n hn
   cases e
   rw [sumN_tail hn (c := 2) fun i h1 _ => by simp [lnM, show ¬ i < m0 by omega]]
   rw [sumN_congr (g := fun _ => 1 * 1) fun i hi => by simp [lnM, hi]]
   rw [sumN_mul]
   have : sumN m0 (fun _ => 1) = m0 := by
     have := sumN_tail (m := 0) (n := m0) (c := 1) (f := fun _ => 1) (Nat.zero_le _) fun _ _ _ => rfl
     rw [this]; simp [sumN]
   rw [this]
   simp only [Nat.zero_add, Nat.pow_zero, Nat.pow_one]
   omega
 | succ k m0 p m' ms0 h1 h2 h3 ih =>
   intro m ms e n hn
   cases e
   have hz := ms_zero (.succ k m0 p m' ms0 h1 h2 h3) rfl
   rw [sumN_tail hn (c := 2 ^ (k + 1 + 1)) fun i q _ => by rw [hz i q, Nat.sub_zero]]
   have e1 : sumN m0 (fun i => 2 ^ (k + 1 + 1 - lnM (m0 :: m' :: ms0) i)) = sumN m0 fun i => 2 ^ (k + 1 - lnM (m' :: ms0) i) := sumN_congr fun i hi => by
     have hL : lnM (m' :: ms0) i ≤ k + 1 := by have := lnM_le (ms := m' :: ms0) (i := i); rw [ms_length h3] at this; exact this
     have : lnM (m0 :: m' :: ms0) i = lnM (m' :: ms0) i + 1 := by
       unfold lnM
       rw [List.countP_cons (a := m0), if_pos (decide_eq_true hi)]
     rw [this, show k + 1 + 1 - (lnM (m' :: ms0) i + 1) = k + 1 - lnM (m' :: ms0) i by omega]
   rw [e1]
   have hi := ih rfl m0 h2
   have q1 : 2 ^ (k + 1) * (m0 + p) = 2 ^ (k + 1) * m0 + 2 ^ k * (2 * p) := by rw [Nat.mul_add, ← Nat.mul_assoc, Nat.pow_succ]
   have q2 : 2 ^ (k + 1 + 1) * n = 2 ^ (k + 1 + 1) * (n - m0) + 2 ^ (k + 1 + 1) * m0 := by rw [← Nat.mul_add]; congr 1; omega
   have q3 : 2 ^ (k + 1 + 1) * m0 = 2 ^ (k + 1) * m0 + 2 ^ (k + 1) * m0 := by rw [Nat.pow_succ 2 (k + 1), Nat.mul_assoc, Nat.two_mul, Nat.mul_add]
   rw [Nat.mul_comm (n - m0)]
   omega
theorem ms_full {S : List Bt} {k : Nat} {m : Nat} {ms : List Nat} {n : Nat} (hn : 2 ≤ n) (h : Ms S k (2 * n - 2) (m :: ms)) (hm : m = n) : sumN n (fun i => 2 ^ (k + 1 - lnM (m :: ms) i)) = 2 ^ (k + 1) := by
 have hk := ms_kraft h rfl n (by omega)
 have e : 2 ^ (k + 1) * n = 2 ^ k * (2 * n - 2) + 2 ^ (k + 1) := by
   obtain ⟨j, rfl⟩ : ∃ j, n = j + 1 := ⟨n - 1, by omega⟩
   rw [show 2 * (j + 1) - 2 = 2 * j by omega, Nat.mul_add, Nat.mul_one, Nat.pow_succ, Nat.mul_assoc]
 omega
def usB (cs : List Nat) : List Nat := (List.range cs.length).filter fun s => decide (0 < cs.getD s 0)
def sgB (cs : List Nat) : List Bt := (usB cs).map fun s => (cs.getD s 0, [s])
def bestB (cs : List Nat) (most : Nat) : List Bt := if (sgB cs).length < 2 then sgB cs else (lvB (sortB (sgB cs)) (most - 1)).take (2 * (sgB cs).length - 2)
def lensB (cs : List Nat) (most : Nat) : List Nat := (List.range cs.length).map fun s => cntB s (bestB cs most)
theorem perm_insR {A : List Bt} {x : Bt} : (insR A x).Perm (x :: A) := by
 have h := List.takeWhile_append_dropWhile (p := fun p : Bt => decide (p.1 ≤ x.1)) (l := A)
 have := List.perm_middle (a := x) (l₁ := A.takeWhile fun p : Bt => decide (p.1 ≤ x.1)) (l₂ := A.dropWhile fun p : Bt => decide (p.1 ≤ x.1))
 rw [h] at this
 exact this
theorem perm_foldl : ∀ {S A : List Bt}, (S.foldl insR A).Perm (S ++ A)
 | [], _ => List.Perm.refl _
 | x :: S, A => by
   rw [List.foldl_cons]
   refine (perm_foldl (S := S)).trans ?_
   refine (List.Perm.append_left S perm_insR).trans ?_
   exact List.perm_middle
theorem perm_sortB {S : List Bt} : (sortB S).Perm S := by
 have := perm_foldl (S := S) (A := [])
 rw [List.append_nil] at this
 exact this
def ysB (cs : List Nat) : List Nat := (sortB (sgB cs)).map fun b => b.2.headD 0
theorem perm_ys {cs : List Nat} : (ysB cs).Perm (usB cs) := by
 have := (perm_sortB (S := sgB cs)).map fun b => b.2.headD 0
 unfold ysB
 refine this.trans ?_
 rw [sgB, List.map_map]
 have e : ((fun b : Bt => b.2.headD 0) ∘ fun s => (cs.getD s 0, [s])) = id := rfl
 rw [e, List.map_id]
theorem mem_us {cs : List Nat} {s : Nat} : s ∈ usB cs ↔ s < cs.length ∧ 0 < cs.getD s 0 := by simp [usB]
theorem mem_ys {cs : List Nat} {s : Nat} : s ∈ ysB cs ↔ s < cs.length ∧ 0 < cs.getD s 0 := by rw [perm_ys.mem_iff, mem_us]
theorem nodup_ys {cs : List Nat} : (ysB cs).Nodup := perm_ys.nodup_iff.2 (List.nodup_range.sublist List.filter_sublist)
theorem sg_eq {cs : List Nat} : sortB (sgB cs) = (ysB cs).map fun s => (cs.getD s 0, [s]) := by
 unfold ysB
 rw [List.map_map]
 have : ∀ b ∈ sortB (sgB cs), ((fun s => (cs.getD s 0, [s])) ∘ fun b : Bt => b.2.headD 0) b = b := by
   intro b hb
   rw [mem_sortB] at hb
   obtain ⟨s, -, rfl⟩ := List.mem_map.1 hb
   rfl
 rw [List.map_congr_left this, List.map_id']
theorem length_ys {cs : List Nat} : (ysB cs).length = (sgB cs).length := by rw [ysB, List.length_map, length_sortB]
theorem cntB_ys {cs : List Nat} {s : Nat} : ∀ (l : List Nat), cntB s (l.map fun s => (cs.getD s 0, [s])) = l.count s
 | [] => rfl
 | x :: l => by rw [List.map_cons, cntB_cons, cntB_ys l, List.count_cons]; simp [List.count_cons]; omega
theorem cnt_take {cs : List Nat} {i m : Nat} (hi : i < (ysB cs).length) : cntB (ysB cs)[i] ((sortB (sgB cs)).take m) = if i < m then 1 else 0 := by
 rw [sg_eq, ← List.map_take, cntB_ys]
 have hn := nodup_ys (cs := cs)
 generalize ysB cs = l at hi hn
 rw [(hn.sublist (List.take_sublist m l)).count]
 have : l[i] ∈ l.take m ↔ i < m := by
   rw [List.mem_take_iff_getElem]
   constructor
   · rintro ⟨j, hj, e⟩
     have hp := List.pairwise_iff_getElem.1 hn
     have hj' : j < l.length := by omega
     rcases Nat.lt_trichotomy j i with q | q | q
     · exact absurd e (hp j i hj' hi q)
     · omega
     · exact absurd e.symm (hp i j hi hj' q)
   · intro h
     exact ⟨i, by omega, rfl⟩
 simp only [this]
theorem cnt_none {cs : List Nat} {s m : Nat} (hs : s ∉ ysB cs) : cntB s ((sortB (sgB cs)).take m) = 0 := by
 rw [sg_eq, ← List.map_take, cntB_ys, List.count_eq_zero]
 exact fun h => hs (List.mem_of_mem_take h)
theorem sum_lnM {i : Nat} : ∀ (ms : List Nat), (ms.map fun m => if i < m then 1 else 0).sum = lnM ms i
 | [] => rfl
 | m :: ms => by
   rw [List.map_cons, List.sum_cons, sum_lnM ms]
   unfold lnM
   rw [List.countP_cons]
   simp only [decide_eq_true_eq]
   omega
theorem sum_zero : ∀ {ms : List Nat} {f : Nat → Nat}, (∀ m, f m = 0) → (ms.map f).sum = 0
 | [], _, _ => rfl
 | m :: ms, f, h => by rw [List.map_cons, List.sum_cons, h m, sum_zero h]
theorem sg_pos {cs : List Nat} : ∀ x ∈ sortB (sgB cs), 0 < x.1 := by
 intro x hx
 rw [mem_sortB] at hx
 obtain ⟨s, hs, rfl⟩ := List.mem_map.1 hx
 exact (mem_us.1 hs).2
theorem lens_facts {cs : List Nat} {most : Nat} (h1 : 1 ≤ most) (hn : 2 ≤ (sgB cs).length) (h2 : (sgB cs).length ≤ 2 ^ most) :
   ∃ m ms, m = (sgB cs).length ∧ (m :: ms).length = most ∧ (∀ i (h : i < (ysB cs).length), cntB (ysB cs)[i] (bestB cs most) = lnM (m :: ms) i) ∧ (∀ s, s ∉ ysB cs → cntB s (bestB cs most) = 0) ∧
     sumN m (fun i => 2 ^ (most - lnM (m :: ms) i)) = 2 ^ most := by
 obtain ⟨k, rfl⟩ : ∃ k, most = k + 1 := ⟨most - 1, by omega⟩
 have hb : bestB cs (k + 1) = (lvB (sortB (sgB cs)) k).take (2 * (sgB cs).length - 2) := by rw [bestB, if_neg (by omega), Nat.add_sub_cancel]
 have hl := lv_len (S := sortB (sgB cs)) k 2 (by rw [length_sortB, Nat.mul_comm, ← Nat.pow_succ]; exact h2)
 rw [length_sortB] at hl
 obtain ⟨m, ms, hMs, hc, -⟩ := ms_ex (sortB_srt _) sg_pos k _ hl
 have hm : m = (sgB cs).length := by
   have a := ms_top hn hMs (Nat.le_refl _)
   have b := ms_le hMs rfl
   rw [length_sortB] at b
   omega
 refine ⟨m, ms, hm, by rw [ms_length hMs], fun i hi => ?_, fun s hs => ?_, ?_⟩
 · rw [hb, hc, ← sum_lnM]
   congr 1
   exact List.map_congr_left fun m _ => cnt_take hi
 · rw [hb, hc]
   exact sum_zero fun m => cnt_none hs
 · have := ms_full hn hMs hm
   rw [hm] at this ⊢
   exact this
theorem prK_prs : ∀ (k : Nat) (l : List Bt), l.length / 2 = k → prK l k = prs l
 | 0, [], _ => rfl
 | 0, [_], _ => by simp [prK, prs]
 | 0, _ :: _ :: _, h => by simp only [List.length_cons] at h; omega
 | k + 1, [], h => by simp at h
 | k + 1, [_], h => by simp at h
 | k + 1, x :: y :: r, h => by
   have ih := prK_prs k r (by simp only [List.length_cons] at h; omega)
   rw [prs, ← ih]
   unfold prK
   rw [List.range_succ_eq_map, List.map_cons, List.map_map]
   congr 1
theorem mem_prs : ∀ {l : List Bt} {q : Bt}, q ∈ prs l → ∃ a ∈ l, ∃ b ∈ l, q = (a.1 + b.1, a.2 ++ b.2)
 | [], q, h => by simp [prs] at h
 | [_], q, h => by simp [prs] at h
 | x :: y :: r, q, h => by
   rw [prs, List.mem_cons] at h
   rcases h with rfl | h
   · exact ⟨x, by simp, y, by simp, rfl⟩
   · obtain ⟨a, ha, b, hb, e⟩ := mem_prs h
     exact ⟨a, by simp [ha], b, by simp [hb], e⟩
theorem lv_big {S : List Bt} (hs : ∀ p ∈ S, p.1 ≤ 4294967296 ∧ p.2.length = 1) : ∀ (k : Nat), ∀ x ∈ lvB S k, x.1 ≤ 4294967296 * 2 ^ k ∧ 1 ≤ x.2.length ∧ x.2.length ≤ 2 ^ k
 | 0 => fun x hx => by have := hs x hx; simp only [Nat.pow_zero]; omega
 | k + 1 => fun x hx => by
   rw [lvB, mem_sortB, List.mem_append] at hx
   have hp : 1 ≤ 2 ^ k := Nat.one_le_two_pow
   rw [Nat.pow_succ]
   rcases hx with hx | hx
   · have := hs x hx
     omega
   · obtain ⟨a, ha, b, hb, rfl⟩ := mem_prs hx
     have h1 := lv_big hs k a ha
     have h2 := lv_big hs k b hb
     simp only [List.length_append]
     omega
theorem lv_max {S : List Bt} : ∀ (k : Nat), (lvB S k).length ≤ 2 * S.length
 | 0 => by simp only [lvB]; omega
 | k + 1 => by
   have := lv_max (S := S) k
   rw [lvB, length_sortB, List.length_append, length_prs]
   omega
end Go.Proofs.YtbcncdpaigljeaaGreatDoor.Aw
namespace Go.Proofs.YtbcncdpaigljeaaGreatDoor.Aw
open Go
set_option linter.unusedSimpArgs false
set_option linter.unusedVariables false
theorem bC_gl' {nl : Bool} {l : List Bt} : ∀ n cells, AO.row n cells ∈ [AO.row nl (bC l)] → AV.gl.glL 1 cells := by
 intro n cells h
 simp only [List.mem_singleton, AO.row.injEq] at h
 obtain ⟨-, rfl⟩ := h
 exact glL_of_free _ _ free_bC
set_option maxRecDepth 100000 in
theorem slices_SortStable_h [Tabs Tryz.prog] (l : List Bt) (N : Nat) (hN : N = l.length) (hl : N ≤ 10000) :
   HCon Tryz.prog n_slices_SortStableFunchuff_batchhuff_batch [.own 1000 0 (some 2) 0 N, cmpF] [.row false (bC l)] (.tup []) [(1000, 0, .row false (bC (sortB l)))] (KS N + 1) := by
 refine HCon.of' mix Tryz.func153 rfl Tryz.ntmps153 e_slices_SortStableFunchuff_batchhuff_batch r_slices_SortStableFunchuff_batchhuff_batch (by simp) (by simp only [AV.gl.glL, AV.gl, cmpF, and_true]; omega) bC_gl ?_
 unfold s_slices_SortStableFunchuff_batchhuff_batch
 have hc := slices_stable_h l N hN hl
 repeat (first | refine zS ?_ | exact zT)
 refine goC_h [(1000, 0)] 2000 hc (by simp) (by simp) ?_ ?_ ?_
 iterate 2 (case _ => (first | exact yU (ja2 @renL_bC @cmpF.eq_1) | refine yR (ja2 @renL_bC @cmpF.eq_1) ?_))
 repeat (first | refine zR (ja2 @renL_bC @outOf_nil) ?_ | exact zU (ja2 @renL_bC @outOf_nil))
 all_goals omega
theorem lvB0 {S : List Bt} : lvB S 0 = S := rfl
theorem renL_bA {ρ : Nat → Nat → Nat × Nat} {l : List Bt} : ren.renL ρ (l.map bA) = l.map bA := renL_free ρ _ free_bA
def bestL (l : List Bt) (most : Nat) : List Bt := if l.length < 2 then l else (lvB (sortB l) (most - 1)).take (2 * l.length - 2)
def KC : Nat := 100 + 20 * (KS 640 + 20)
theorem KC_pos : 1 ≤ KC := Nat.le_trans (by omega : 1 ≤ 100) (Nat.le_add_right _ _)
theorem KS_le {n : Nat} (h : n ≤ 640) : KS n ≤ KS 640 := by
 unfold KS KM
 have h1 : 10 * n * n ≤ 10 * 640 * 640 := Nat.mul_le_mul (by omega) h
 have h2 : 10 * n * n * (2 * n + 20) ≤ 10 * 640 * 640 * (2 * 640 + 20) := Nat.mul_le_mul h1 (by omega)
 omega
set_option maxHeartbeats 1000000 in
set_option maxRecDepth 100000 in
theorem huff_cheapest_h [Tabs Tryz.prog] (l : List Bt) (n most : Nat) (hn : n = l.length) (hl : n ≤ 320) (h1 : 1 ≤ most) (h15 : most ≤ 15) (hbig : n ≤ 2 ^ most) (hs : ∀ p ∈ l, p.1 ≤ 4294967296 ∧ p.2.length = 1) :
   HCon Tryz.prog n_huff_cheapest [.own 1000 0 (some 2) 0 n, int (most : Int)] [.row (nl0 n) (bC l)] (.sl (nl0 n) (some 2) ((bestL l most).map bA)) [] KC := by
 refine HCon.of' mix Tryz.func149 rfl Tryz.ntmps149 e_huff_cheapest r_huff_cheapest (by simp) (by simp only [AV.gl.glL, AV.gl, int, and_true]; omega) bC_gl' ?_
 unfold s_huff_cheapest
 have hbl : (bC l).length = n * 2 := by rw [length_bC, hn]
 have hbl2 : (bC (sortB l)).length = n * 2 := by rw [length_bC, length_sortB, hn]
 have hch : ∀ k : List Bt, chunks (some 2) k.length (bC k) = k.map bA := fun k => chunks_bC
 by_cases c : n < 2
 · have d : decide ((n : Int) < 2) = true := decide_eq_true (by omega)
   have dl : decide ((l.length : Int) < 2) = true := decide_eq_true (by omega)
   have hb : bestL l most = l := by rw [bestL, if_pos (by omega)]
   rw [hb]
   have hcn := hch l
   rw [← hn] at hcn
   iterate 2 (first | refine zS ?_ | exact zT)
   refine SWp.frzo 1000 0 (nl := nl0 n) (cells := bC l) (by (first | exact yT | refine yS ?_)) free_bC ?_
   refine SWp.le (le_mk (N := 31) (gc := 1) (l := [(0, .sl (nl0 n) (some 2) (l.map bA))]) (h := []) rfl ?_ ?_ ?_) ?_
   iterate 3 (case _ => (first | exact yU (ja3 fR @hcn @hbl) | refine yR (ja3 fR @hcn @hbl) ?_))
   repeat (first | refine zR (ja2 @d @dl) ?_ | exact zU (ja2 @d @dl))
   exact KC_pos
 · have d : decide ((n : Int) < 2) = false := decide_eq_false (by omega)
   have hn0 : nl0 n = false := nl0_pos (by omega)
   rw [hn0]
   have hc := slices_SortStable_h l n hn (by omega)
   have hcn := hch (sortB l)
   rw [length_sortB, ← hn] at hcn
   have hKS := KS_le (n := n) (by omega)
   obtain ⟨Q, hQ⟩ : ∃ Q, Q = KS 640 := ⟨_, rfl⟩
   have hKC : KC = 100 + 20 * (Q + 20) := by rw [hQ]; rfl
   rw [← hQ] at hKS
   repeat (first | refine zR @d ?_ | exact zU @d)
   refine goC_h [(1000, 0)] 2000 hc (by simp) (by simp) ?_ ?_ ?_
   iterate 2 (case _ => (first | exact yU (ja2 @renL_bC @cmpF.eq_1) | refine yR (ja2 @renL_bC @cmpF.eq_1) ?_))
   obtain ⟨m1, hm1⟩ : ∃ m1, m1 = most - 1 := ⟨_, rfl⟩
   have em : (most : Int) - 1 = (m1 : Int) := by omega
   repeat (first | refine zR (ja2 @renL_bC @em) ?_ | exact zU (ja2 @renL_bC @em))
   refine SWp.le (le_mk (N := 31) (gc := Q + 20) (l := [(0, .own 1000 0 (some 2) 0 n), (5, .own 1000 0 (some 2) 0 n), (14, int (m1 : Int)), (15, int 0)]) (h := [(1000, 0, .row false (bC (sortB l)))]) rfl ?_ ?_ ?_) ?_
   · show 1 + (KS n + 1) ≤ Q + 20
     omega
   iterate 2 (case _ => (first | exact yT | refine yS ?_))
   refine SWp.frzo 1000 0 (nl := false) (cells := bC (sortB l)) (by (first | exact yT | refine yS ?_)) free_bC ?_
   refine SWp.le (le_mk (N := 31) (gc := Q + 20) (l := [(0, .sl false (some 2) ((sortB l).map bA)), (5, .sl false (some 2) ((sortB l).map bA)), (14, int (m1 : Int)), (15, int 0)]) (h := []) rfl ?_ ?_ ?_) ?_
   · exact Nat.le_refl _
   iterate 2 (case _ => (first | exact yU (ja3 fR @hcn @hbl2) | refine yR (ja3 fR @hcn @hbl2) ?_))
   refine SWp.loop (α := Nat) (fun k => mk 31 (Q + 20 + k * (Q + 20)) [(0, .sl false (some 2) ((sortB l).map bA)), (5, .sl false (some 2) ((lvB (sortB l) k).map bA)), (14, int (m1 : Int)), (15, int (k : Int))] [])
     (fun k => k ≤ m1) (fun k => m1 - k) 0 (Nat.zero_le _) (le_mk rfl ?_ ?_ ?_) ?_
   · show Q + 20 ≤ Q + 20 + 0 * (Q + 20)
     omega
   iterate 2 (case _ => (first | exact yU @lvB0 | refine yR @lvB0 ?_))
   clear hc hcn hbl hbl2 hch
   intro k hk _
   by_cases ck : k < m1
   · have dk : decide ((k : Int) < (m1 : Int)) = true := decide_eq_true (by omega)
     have hlb := lv_big (S := sortB l) (fun p hp => hs p (mem_sortB.1 hp)) k
     have hlm := lv_max (S := sortB l) k
     have hsl : (sortB l).length = n := by rw [length_sortB, hn]
     rw [hsl] at hlm
     have hp2 : 2 ^ k ≤ 16384 := Nat.pow_le_pow_right (n := 2) (by omega) (show k ≤ 14 by omega)
     have hnx : lvB (sortB l) (k + 1) = sortB (sortB l ++ prs (lvB (sortB l) k)) := rfl
     obtain ⟨B, hBd⟩ : ∃ B, B = lvB (sortB l) k := ⟨_, rfl⟩
     rw [← hBd] at hlb hlm hnx
     have hpl := length_prs B
     have cP := huff_pairs_c false B (by omega) (fun p hp => by have := hlb p hp; omega)
     rw [prK_prs _ _ rfl] at cP
     obtain ⟨N2, hN2⟩ : ∃ N2, N2 = (sortB l).length + (prs B).length := ⟨_, rfl⟩
     have cC := slices_ConcatB false (nl0 (B.length / 2)) (sortB l) (prs B) (by omega) (by omega) (by omega)
     rw [← hN2] at cC
     have cS := slices_SortStable_h (sortB l ++ prs B) N2 (by simp only [List.length_append]; omega) (by omega)
     have hK2 := KS_le (n := N2) (by omega)
     rw [← hQ] at hK2
     rw [← hBd]
     repeat (first | refine zR @dk ?_ | exact zU @dk)
     refine goC_p _ (.inl ⟨by simp only [AV.free, AV.free.freeL, free_bA, Bool.and_self], cP⟩) ?_
     repeat (first | refine zR @free_bA ?_ | exact zU @free_bA)
     refine goC_h [] 3000 cC (by simp) (by simp) ?_ ?_ ?_
     iterate 2 (case _ => (first | exact yU @renL_bA | refine yR @renL_bA ?_))
     repeat (first | refine zR (ja2 @renL_bC @renL_bA) ?_ | exact zU (ja2 @renL_bC @renL_bA))
     refine goC_h [(4022, Q + 20 + k * (Q + 20) + 4)] 5000 cS (by simp) (by simp) ?_ ?_ ?_
     iterate 2 (case _ => (first | exact yU (ja2 @renL_bC @cmpF.eq_1) | refine yR (ja2 @renL_bC @cmpF.eq_1) ?_))
     have hch2 : chunks (some 2) N2 (bC (sortB (sortB l ++ prs B))) = (sortB (sortB l ++ prs B)).map bA := by
       have := chunks_bC (l := sortB (sortB l ++ prs B))
       rw [length_sortB, List.length_append, ← hN2] at this
       exact this
     have hbl3 : (bC (sortB (sortB l ++ prs B))).length = N2 * 2 := by rw [length_bC, length_sortB, List.length_append, hN2]
     have hkk : (k + 1) * (Q + 20) = k * (Q + 20) + (Q + 20) := Nat.succ_mul _ _
     change SWp _ _ _ _
     refine SWp.le (le_mk (N := 31) (gc := Q + 20 + (k + 1) * (Q + 20)) (l := [(0, .sl false (some 2) ((sortB l).map bA)), (5, .own 4022 (Q + 20 + k * (Q + 20) + 4) (some 2) 0 N2), (14, int (m1 : Int)), (15, int (k : Int))]) (h := [(4022, Q + 20 + k * (Q + 20) + 4, .row false (bC (sortB (sortB l ++ prs B))))]) rfl ?_ ?_ ?_) ?_
     · show Q + 20 + k * (Q + 20) + 5 + (KS N2 + 1) ≤ _
       omega
     iterate 2 (case _ => (first | exact yU @renL_bC | refine yR @renL_bC ?_))
     refine SWp.frzo 4022 (Q + 20 + k * (Q + 20) + 4) (nl := false) (cells := bC (sortB (sortB l ++ prs B))) (by (first | exact yT | refine yS ?_)) free_bC ?_
     refine SWp.le (le_mk (N := 31) (gc := Q + 20 + (k + 1) * (Q + 20)) (l := [(0, .sl false (some 2) ((sortB l).map bA)), (5, .sl false (some 2) ((sortB (sortB l ++ prs B)).map bA)), (14, int (m1 : Int)), (15, int (k : Int))]) (h := []) rfl ?_ ?_ ?_) ?_
     · exact Nat.le_refl _
     iterate 2 (case _ => (first | exact yU (ja3 fR @hch2 @hbl3) | refine yR (ja3 fR @hch2 @hbl3) ?_))
     repeat (first | refine zS ?_ | exact zT)
     refine At.of (k + 1) (by omega) (by omega) rfl rfl (Nat.le_refl _) ?_ ?_
     iterate 2 (case _ => (first | exact yU @hnx | refine yR @hnx ?_))
   · have dk : decide ((k : Int) < (m1 : Int)) = false := decide_eq_false (by omega)
     obtain rfl : k = m1 := by omega
     have hsl : (sortB l).length = n := by rw [length_sortB, hn]
     have hlen := lv_len (S := sortB l) k 2 (by
       have : 2 * 2 ^ k = 2 ^ most := by rw [show most = k + 1 by omega, Nat.pow_succ, Nat.mul_comm]
       rw [hsl]; omega)
     rw [hsl] at hlen
     have hbe : bestL l most = (lvB (sortB l) k).take (2 * n - 2) := by rw [bestL, if_neg (by omega), ← hm1, ← hn]
     obtain ⟨n2, hn2⟩ : ∃ n2, n2 = 2 * n := ⟨_, rfl⟩
     obtain ⟨t, ht⟩ : ∃ t, t = 2 * n - 2 := ⟨_, rfl⟩
     have e1 : 2 * (n : Int) = (n2 : Int) := by omega
     have e2 : (n2 : Int) - 2 = (t : Int) := by omega
     rw [hbe, ← ht]
     rw [← ht] at hlen
     repeat (first | refine zR (ja4 @dk @hsl @e1 @e2) ?_ | exact zU (ja4 @dk @hsl @e1 @e2))
     have hkk : k * (Q + 20) ≤ 15 * (Q + 20) := Nat.mul_le_mul_right _ (by omega)
     exact ⟨List.map_take.symm, by rw [hKC]; omega⟩
end Go.Proofs.YtbcncdpaigljeaaGreatDoor.Aw
namespace Go.Proofs.YtbcncdpaigljeaaGreatDoor.Aw
open Go
set_option linter.unusedSimpArgs false
set_option linter.unusedVariables false
def bdC (x : Int) : Bool := decide (x < 0) || decide (4294967296 < x)
def usedC (cs : List Int) : Nat := cs.countP fun x => decide (0 < x)
def badE (cs : List Int) (most : Int) : Nat := if most < 1 ∨ 15 < most then 1 else if 320 < cs.length then 4 else if cs.any bdC = true then 1 else if 2 ^ most.toNat < usedC cs then 4 else 0
theorem usedC_snoc {cs : List Int} {k : Nat} (h : k < cs.length) : usedC (cs.take (k + 1)) = usedC (cs.take k) + if 0 < cs[k] then 1 else 0 := by
 unfold usedC
 rw [List.take_succ_eq_append_getElem h, List.countP_append]
 simp [List.countP_cons]
theorem usedC_le {cs : List Int} : usedC cs ≤ cs.length := List.countP_le_length
end Go.Proofs.YtbcncdpaigljeaaGreatDoor.Aw
namespace Go.Proofs.YtbcncdpaigljeaaGreatDoor.Aw
open Go
set_option linter.unusedSimpArgs false
set_option linter.unusedVariables false
def sgP (c : List Nat) (k : Nat) : List Bt := ((List.range k).filter fun s => decide (0 < c.getD s 0)).map fun s => (c.getD s 0, [s])
theorem sgP_all {c : List Nat} : sgP c c.length = sgB c := rfl
theorem sgP_pos {c : List Nat} {k : Nat} (h : 0 < c.getD k 0) : sgP c (k + 1) = sgP c k ++ [(c.getD k 0, [k])] := by
 simp only [sgP, List.range_succ, List.filter_append, List.map_append]
 rw [List.filter_cons_of_pos (by simpa using h)]
 rfl
theorem sgP_not {c : List Nat} {k : Nat} (h : ¬ 0 < c.getD k 0) : sgP c (k + 1) = sgP c k := by
 simp only [sgP, List.range_succ, List.filter_append, List.map_append]
 rw [List.filter_cons_of_neg (by simpa using h)]
 simp
theorem sgP_len {cs : List Int} : ∀ {k : Nat}, k ≤ cs.length → (sgP (cs.map Int.toNat) k).length = usedC (cs.take k)
 | 0, _ => rfl
 | k + 1, h => by
   have hk : k < cs.length := by omega
   have ih := sgP_len (cs := cs) (k := k) (by omega)
   have hg : (cs.map Int.toNat).getD k 0 = cs[k].toNat := by simp [List.getD, hk]
   have hu : usedC (cs.take (k + 1)) = usedC (cs.take k) + if 0 < cs[k] then 1 else 0 := by
     unfold usedC
     rw [List.take_succ_eq_append_getElem hk, List.countP_append]
     simp [List.countP_cons]
   rw [hu]
   by_cases c : 0 < cs[k]
   · rw [sgP_pos (by rw [hg]; omega), List.length_append, ih, if_pos c]; rfl
   · rw [sgP_not (by rw [hg]; omega), ih, if_neg c]; rfl
theorem sgP_each {c : List Nat} {k : Nat} (hc : ∀ x ∈ c, x ≤ 4294967296) : ∀ p ∈ sgP c k, p.1 ≤ 4294967296 ∧ p.2.length = 1 := by
 intro p hp
 obtain ⟨s, hs, rfl⟩ := List.mem_map.1 hp
 refine ⟨?_, rfl⟩
 simp only [List.mem_filter, decide_eq_true_eq] at hs
 simp only
 by_cases q : s < c.length
 · rw [List.getD_eq_getElem?_getD, List.getElem?_eq_getElem q]; exact hc _ (List.getElem_mem _)
 · rw [List.getD_eq_getElem?_getD, List.getElem?_eq_none (by omega)] at hs
   simp at hs
theorem row_succ {n t : Nat} {f : Nat → Nat} (ht : t < n) : ((List.range n).map f).set t (f t + 1) = (List.range n).map fun s => f s + if s = t then 1 else 0 := by
 refine List.ext_getElem (by simp) fun i h1 h2 => ?_
 simp only [List.length_map, List.length_range] at h2
 rw [List.getElem_set]
 simp only [List.getElem_map, List.getElem_range]
 by_cases e : t = i
 · subst e; simp
 · rw [if_neg e, if_neg (by omega)]; rfl
end Go.Proofs.YtbcncdpaigljeaaGreatDoor.Aw
namespace Go.Proofs.YtbcncdpaigljeaaGreatDoor.Aw
open Go
set_option linter.unusedSimpArgs false
set_option linter.unusedVariables false
def lenG (cs : List Int) (most : Int) : AV := if badE cs most ≠ 0 then .tup [.sc (.slice none 0 0), int (badE cs most : Int)] else .tup [.sl false none ((lensB (cs.map Int.toNat) most.toNat).map nA), int 0]
theorem free_lenG {cs : List Int} {most : Int} : (lenG cs most).free = true := by
 unfold lenG
 split
 · rfl
 · simp only [AV.free, AV.free.freeL, free_nA, int, Bool.and_self]
theorem bC_snoc {l : List Bt} {x s : Nat} : bC l ++ [.sc (.int .i64 (x : Int)), .sl false none [nA s]] = bC (l ++ [(x, [s])]) := by rw [← bC_append]; rfl
theorem cntB_le {s B : Nat} : ∀ {L : List Bt}, (∀ x ∈ L, x.2.length ≤ B) → cntB s L ≤ L.length * B
 | [], _ => by simp [cntB_nil]
 | x :: L, h => by
   have h1 := h x (by simp)
   have h2 : x.2.count s ≤ x.2.length := List.count_le_length
   have ih := cntB_le (s := s) (L := L) fun y hy => h y (by simp [hy])
   rw [cntB_cons, List.length_cons, Nat.succ_mul]
   omega
theorem lv_sym {S : List Bt} {P : Nat → Prop} (h : ∀ x ∈ S, ∀ t ∈ x.2, P t) : ∀ (k : Nat), ∀ x ∈ lvB S k, ∀ t ∈ x.2, P t
 | 0 => h
 | k + 1 => fun x hx t ht => by
   rw [lvB, mem_sortB, List.mem_append] at hx
   rcases hx with hx | hx
   · exact h x hx t ht
   · obtain ⟨a, ha, b, hb, rfl⟩ := mem_prs hx
     rcases List.mem_append.1 ht with ht | ht
     · exact lv_sym h k a ha t ht
     · exact lv_sym h k b hb t ht
theorem best_facts {c : List Nat} {q : Nat} (hc : c.length ≤ 320) (hc32 : ∀ x ∈ c, x ≤ 4294967296) (hq : q ≤ 15) : (bestB c q).length ≤ 640 ∧ ∀ x ∈ bestB c q, x.2.length ≤ 16384 ∧ ∀ t ∈ x.2, t < c.length := by
 have hS : ∀ x ∈ sgB c, ∀ t ∈ x.2, t < c.length := fun x hx t ht => by
   obtain ⟨s, hs, rfl⟩ := List.mem_map.1 hx
   simp only [List.mem_singleton] at ht
   subst ht
   exact (mem_us.1 hs).1
 have h1 := sgP_each (c := c) (k := c.length) hc32
 rw [sgP_all] at h1
 have hl : (sgB c).length ≤ c.length := by
   rw [sgB, List.length_map]
   exact Nat.le_trans (List.length_filter_le _ _) (by simp)
 unfold bestB
 split
 · exact ⟨by omega, fun x hx => ⟨by have := (h1 x hx).2; omega, hS x hx⟩⟩
 · have hm := lv_max (S := sortB (sgB c)) (q - 1)
   rw [length_sortB] at hm
   refine ⟨by rw [List.length_take]; omega, fun x hx => ?_⟩
   have hx := List.mem_of_mem_take hx
   have hb := lv_big (S := sortB (sgB c)) (fun p hp => h1 p (mem_sortB.1 hp)) (q - 1) x hx
   have hp2 : 2 ^ (q - 1) ≤ 16384 := Nat.pow_le_pow_right (n := 2) (by omega) (show q - 1 ≤ 14 by omega)
   exact ⟨by omega, lv_sym (S := sortB (sgB c)) (P := fun t => t < c.length) (fun y hy => hS y (mem_sortB.1 hy)) _ x hx⟩
set_option maxHeartbeats 1000000 in
set_option maxRecDepth 100000 in
theorem huff_Lengths_c [Tabs Tryz.prog] (nl : Bool) (cs : List Int) (most : Int) : Con Tryz.prog n_huff_Lengths [.sl nl none (cs.map int), int most] (lenG cs most) := by
 refine Con.of' mix Tryz.func130 rfl Tryz.ntmps130 e_huff_Lengths r_huff_Lengths (by simp) (by simp only [AV.free, AV.free.freeL, free_zA, int, Bool.and_self]) free_lenG ?_
 unfold s_huff_Lengths
 by_cases c1 : most < 1
 · have d1 := decide_eq_true c1
   have hb : badE cs most = 1 := by rw [badE, if_pos (.inl c1)]
   rw [lenG, hb, if_pos (by simp)]
   repeat (first | refine zR @d1 ?_ | exact zU @d1)
 have d1 := decide_eq_false c1
 by_cases c2 : 15 < most
 · have d2 := decide_eq_true c2
   have hb : badE cs most = 1 := by rw [badE, if_pos (.inr c2)]
   rw [lenG, hb, if_pos (by simp)]
   repeat (first | refine zR (ja2 @d1 @d2) ?_ | exact zU (ja2 @d1 @d2))
 have d2 := decide_eq_false c2
 by_cases c3 : 320 < cs.length
 · have d3 : decide ((320 : Int) < (cs.length : Int)) = true := decide_eq_true (by omega)
   have hb : badE cs most = 4 := by rw [badE, if_neg (by omega), if_pos c3]
   rw [lenG, hb, if_pos (by simp)]
   repeat (first | refine zR (ja4 @d1 @d2 @d3 @List.length_map.{0, 0}) ?_ | exact zU (ja4 @d1 @d2 @d3 @List.length_map.{0, 0}))
 have d3 : decide ((320 : Int) < (cs.length : Int)) = false := decide_eq_false (by omega)
 obtain ⟨q, rfl⟩ : ∃ q : Nat, most = (q : Int) := ⟨most.toNat, by omega⟩
 have hbE : badE cs (q : Int) = if cs.any bdC = true then 1 else if 2 ^ q < usedC cs then 4 else 0 := by rw [badE, if_neg (by omega), if_neg c3, Int.toNat_natCast]
 obtain ⟨G, hG⟩ : ∃ G, G = lenG cs (q : Int) := ⟨_, rfl⟩
 have hG1 : cs.any bdC = true → G = .tup [.sc (.slice none 0 0), int 1] := fun h => by rw [hG, lenG, hbE, if_pos h, if_pos (by simp)]; rfl
 rw [← hG]
 obtain ⟨c, hc⟩ : ∃ c, c = cs.map Int.toNat := ⟨_, rfl⟩
 obtain ⟨M, hM⟩ : ∃ M, M = cs.length := ⟨_, rfl⟩
 rw [← hM] at d3 c3
 iterate 14 (first | refine zR (ja5 @d1 @d2 @d3 @List.length_map.{0, 0} hM.symm) ?_ | exact zU (ja5 @d1 @d2 @d3 @List.length_map.{0, 0} hM.symm))
 refine SWp.adopt 6 (some 2) (by (first | exact yT | refine yS ?_)) ?_
 repeat (first | refine zR (ja2 @List.length_map.{0, 0} hM.symm) ?_ | exact zU (ja2 @List.length_map.{0, 0} hM.symm))
 refine SWp.loop (α := Nat × Nat × Nat) (fun x => mk 78 x.2.2 [(0, .sl nl none (cs.map int)), (1, int (q : Int)), (6, .own 6 x.2.1 (some 2) 0 (usedC (cs.take x.1))), (23, .sl nl none (cs.map int)), (24, int (M : Int)), (25, int (x.1 : Int))] [(6, x.2.1, .row (nl0 (usedC (cs.take x.1))) (bC (sgP c x.1)))])
   (fun x => x.1 ≤ M ∧ (cs.take x.1).any bdC = false ∧ x.2.2 ≤ 1 + x.1) (fun x => M - x.1) (0, 0, 1) ⟨Nat.zero_le _, by simp, by simp⟩ (le_mk rfl ?_ ?_ ?_) ?_
 · exact Nat.le_refl _
 · simp (disch := omega) only [wP, wZ, so, sm, sg, sn, undef, seval, if_pos, if_neg, aStore, frz, AV.flat, ↓reduceIte, ne_eq, reduceCtorEq, ByteArray.size, show usedC (cs.take 0) = 0 from rfl, show usedC [] = 0 from rfl]
   try rfl
 · simp (disch := omega) only [wP, wZ, so, sm, sg, sn, undef, seval, if_pos, if_neg, aStore, frz, AV.flat, ↓reduceIte, ne_eq, reduceCtorEq, ByteArray.size, show usedC (cs.take 0) = 0 from rfl, show usedC [] = 0 from rfl, nl0_zero]
   try rfl
 rintro ⟨k, g, gc⟩ ⟨hk, hany, hgc⟩ -
 simp only at hk hany hgc
 obtain ⟨u, hu⟩ : ∃ u, u = usedC (cs.take k) := ⟨_, rfl⟩
 have hul : u ≤ k := by rw [hu]; exact Nat.le_trans usedC_le (by rw [List.length_take]; omega)
 have hsl : (sgP c k).length = u := by rw [hc, hu]; exact sgP_len (by omega)
 have hbl : (bC (sgP c k)).length = u * 2 := by rw [length_bC, hsl]
 simp only [← hu]
 by_cases ck : k < M
 · have dk : decide ((k : Int) < (M : Int)) = true := decide_eq_true (by omega)
   have ck' : k < cs.length := by omega
   obtain ⟨x, hx⟩ : ∃ x, x = cs[k] := ⟨_, rfl⟩
   have hg : (cs.map int).getD k .junk = .sc (.int .i64 x) := by rw [hx]; simp [List.getD, ck', int]
   have hcg : c.getD k 0 = x.toNat := by rw [hc, hx]; simp [List.getD, ck']
   have hus := usedC_snoc ck'
   rw [← hu, ← hx] at hus
   have htk : (cs.take (k + 1)).any bdC = bdC x := by rw [List.take_succ_eq_append_getElem ck', List.any_append, hany, ← hx]; simp
   have hmem : bdC x = true → cs.any bdC = true := fun h => by
     rw [List.any_eq_true]
     exact ⟨x, by rw [hx]; exact List.getElem_mem _, h⟩
   by_cases c4 : x < 0
   · have d4 := decide_eq_true c4
     rw [hG1 (hmem (by unfold bdC; rw [d4]; rfl))]
     repeat (first | refine zR (ja5 @dk @List.length_map.{0, 0} hM.symm @hg @d4) ?_ | exact zU (ja5 @dk @List.length_map.{0, 0} hM.symm @hg @d4))
   have d4 := decide_eq_false c4
   by_cases c5 : 4294967296 < x
   · have d5 := decide_eq_true c5
     rw [hG1 (hmem (by unfold bdC; rw [d5, Bool.or_true]))]
     repeat (first | refine zR (ja6 @dk @List.length_map.{0, 0} hM.symm @hg @d4 @d5) ?_ | exact zU (ja6 @dk @List.length_map.{0, 0} hM.symm @hg @d4 @d5))
   have d5 := decide_eq_false c5
   have hb : bdC x = false := by unfold bdC; rw [d4, d5]; rfl
   by_cases c6 : 0 < x
   · have d6 := decide_eq_true c6
     rw [if_pos c6] at hus
     have hsg := sgP_pos (c := c) (k := k) (by rw [hcg]; omega)
     obtain ⟨z, rfl⟩ : ∃ z : Nat, x = (z : Int) := ⟨x.toNat, by omega⟩
     rw [hcg, Int.toNat_natCast] at hsg
     have hcells : bC (sgP c k) ++ [.sc (.int .i64 (z : Int)), .sl false none [.sc (.int .i64 (k : Int))]] = bC (sgP c (k + 1)) := by rw [hsg]; exact bC_snoc
     have hfl : List.flatMap (fun x => (cellsA x).getD []) [AV.agg [AV.sc (Value.int IntKind.i64 (z : Int)), AV.sl false none [AV.sc (.int .i64 (k : Int))]]] = [.sc (.int .i64 (z : Int)), .sl false none [.sc (.int .i64 (k : Int))]] := rfl
     repeat (first | refine zR (ja7 @dk @List.length_map.{0, 0} hM.symm @hg @d4 @d5 @d6) ?_ | exact zU (ja7 @dk @List.length_map.{0, 0} hM.symm @hg @d4 @d5 @d6))
     refine ⟨⟨_, rfl, rfl⟩, ⟨fun w hw => ⟨_, List.mem_singleton.1 hw⟩, hbl.symm, by omega, by omega⟩, ?_⟩
     repeat (first | refine zR (ja2 @hfl @hcells) ?_ | exact zU (ja2 @hfl @hcells))
     refine At.of (k + 1, gc, gc + 1) ⟨by simp only; omega, by simp only; rw [htk, hb], by simp only; omega⟩ (by simp only; omega) rfl rfl (Nat.le_refl _) ?_ ?_
     · (first | exact yU @hus | refine yR @hus ?_)
       try omega
     · (first | exact yU (ja2 @hus @nl0_succ) | refine yR (ja2 @hus @nl0_succ) ?_)
   · have d6 := decide_eq_false c6
     rw [if_neg c6, Nat.add_zero] at hus
     have hsg := sgP_not (c := c) (k := k) (by rw [hcg]; omega)
     repeat (first | refine zR (ja7 @dk @List.length_map.{0, 0} hM.symm @hg @d4 @d5 @d6) ?_ | exact zU (ja7 @dk @List.length_map.{0, 0} hM.symm @hg @d4 @d5 @d6))
     refine At.of (k + 1, g, gc) ⟨by simp only; omega, by simp only; rw [htk, hb], by simp only; omega⟩ (by simp only; omega) rfl rfl (Nat.le_refl _) ?_ ?_
     iterate 2 (case _ => (first | exact yU (ja2 @hus @hsg) | refine yR (ja2 @hus @hsg) ?_))
 · have dk : decide ((k : Int) < (M : Int)) = false := decide_eq_false (by omega)
   obtain rfl : k = M := by omega
   rw [hM, List.take_length] at hany hu
   have hq : 2 ^ q ≤ 32768 := Nat.pow_le_pow_right (n := 2) (by omega) (show q ≤ 15 by omega)
   by_cases c7 : 2 ^ q < u
   · have d7 : decide (((1 * 2 ^ q : Nat) : Int) < (u : Int)) = true := decide_eq_true (Int.ofNat_lt.2 (by omega))
     have hGe : G = .tup [.sc (.slice none 0 0), int 4] := by
       have hb : badE cs (q : Int) = 4 := by rw [hbE, if_neg (by rw [hany]; simp), if_pos (by rw [← hu]; exact c7)]
       rw [hG, lenG, hb, if_pos (by simp)]; rfl
     rw [hGe]
     repeat (first | refine zR (ja4 @dk @List.length_map.{0, 0} hM.symm @d7) ?_ | exact zU (ja4 @dk @List.length_map.{0, 0} hM.symm @d7))
   · have d7 : decide (((1 * 2 ^ q : Nat) : Int) < (u : Int)) = false := decide_eq_false (fun h => c7 (by have := Int.ofNat_lt.1 h; omega))
     have hGe : G = .tup [.sl false none ((lensB c q).map nA), int 0] := by
       have hb : badE cs (q : Int) = 0 := by rw [hbE, if_neg (by rw [hany]; simp), if_neg (by rw [← hu]; exact c7)]
       rw [hG, lenG, hb, if_neg (by simp), Int.toNat_natCast, ← hc]
     rw [hGe]
     have hcl : c.length = k := by rw [hc, List.length_map, hM]
     have hc32 : ∀ x ∈ c, x ≤ 4294967296 := fun x hx => by
       rw [hc] at hx
       obtain ⟨y, hy, rfl⟩ := List.mem_map.1 hx
       rw [List.any_eq_false] at hany
       have := hany y hy
       simp only [bdC, Bool.or_eq_true, decide_eq_true_eq] at this
       omega
     have hch := huff_cheapest_h (sgP c k) u q hsl.symm (by omega) (by omega) (by omega) (by omega) (sgP_each hc32)
     have hbs : bestL (sgP c k) q = bestB c q := by rw [← hcl]; rfl
     rw [hbs] at hch
     repeat (first | refine zR (ja4 @dk @List.length_map.{0, 0} hM.symm @d7) ?_ | exact zU (ja4 @dk @List.length_map.{0, 0} hM.symm @d7))
     refine goC_h [(6, g)] 1000 hch (by simp) (by simp) ?_ ?_ ?_
     iterate 2 (case _ => (first | exact yU @renL_bC | refine yR @renL_bC ?_))
     obtain ⟨hBn, hBe⟩ := best_facts (c := c) (q := q) (by omega) hc32 (by omega)
     rw [hcl] at hBe
     have hlens : lensB c q = (List.range k).map fun s => cntB s (bestB c q) := by rw [lensB, hcl]
     rw [hlens]
     clear hch hbs hlens
     obtain ⟨Bs, hBs⟩ : ∃ Bs, Bs = bestB c q := ⟨_, rfl⟩
     rw [← hBs] at hBn hBe
     rw [← hBs]
     repeat (first | refine zR (ja2 @renL_bA @List.length_map.{0, 0}) ?_ | exact zU (ja2 @renL_bA @List.length_map.{0, 0}))
     refine SWp.loop (α := Nat × List Nat) (fun x => mk 78 (gc + 1 + KC + x.1) [(9, .own 53 gc none 0 k), (56, .sl (nl0 u) (some 2) (Bs.map bA)), (57, int (Bs.length : Int)), (58, int (x.1 : Int))] [(53, gc, .row false (x.2.map nA))])
       (fun x => x.1 ≤ Bs.length ∧ x.2 = (List.range k).map fun s => cntB s (Bs.take x.1)) (fun x => Bs.length - x.1) (0, List.replicate k 0) ⟨Nat.zero_le _, ?_⟩ (le_mk rfl ?_ ?_ ?_) ?_
     · simp only [List.take_zero, cntB_nil]
       refine List.ext_getElem (by simp) fun i h1 h2 => by simp
     · simp only; omega
     · (first | exact yT | refine yS ?_)
     · (first | exact yT | refine yS ?_)
       simp
       exact .inr rfl
     rintro ⟨j, l⟩ ⟨hj, hlf⟩ -
     simp only at hj hlf
     have hll : l.length = k := by rw [hlf]; simp
     by_cases cj : j < Bs.length
     · have dj : decide ((j : Int) < (Bs.length : Int)) = true := decide_eq_true (by omega)
       obtain ⟨p, hp⟩ : ∃ p, p = Bs.getD j (0, []) := ⟨_, rfl⟩
       have hpg : p = Bs[j] := by rw [hp]; simp [List.getD, cj]
       have hpm : p ∈ Bs := by rw [hpg]; exact List.getElem_mem _
       obtain ⟨hp1, hp2⟩ := hBe p hpm
       have eb : (Bs.map bA).getD j .junk = .agg [.sc (.int .i64 (p.1 : Int)), .sl false none (p.2.map nA)] := by rw [hp]; exact getD_bA cj
       have htj : Bs.take (j + 1) = Bs.take j ++ [p] := by rw [List.take_succ_eq_append_getElem cj, hpg]
       have hcb : ∀ s, cntB s (Bs.take j) ≤ 640 * 16384 := fun s => Nat.le_trans (cntB_le (B := 16384) fun x hx => (hBe x (List.mem_of_mem_take hx)).1) (Nat.mul_le_mul_right _ (by rw [List.length_take]; omega))
       repeat (first | refine zR (ja3 @dj @eb @List.length_map.{0, 0}) ?_ | exact zU (ja3 @dj @eb @List.length_map.{0, 0}))
       refine SWp.loop (α := Nat × List Nat) (fun x => mk 78 (gc + 1 + KC + j + 1) [(9, .own 53 gc none 0 k), (56, .sl (nl0 u) (some 2) (Bs.map bA)), (57, int (Bs.length : Int)), (58, int (j : Int)), (63, .sl false none (p.2.map nA)), (64, int (p.2.length : Int)), (65, int (x.1 : Int))] [(53, gc, .row false (x.2.map nA))])
         (fun x => x.1 ≤ p.2.length ∧ x.2 = (List.range k).map fun s => cntB s (Bs.take j) + (p.2.take x.1).count s) (fun x => p.2.length - x.1) (0, l) ⟨Nat.zero_le _, by simp [hlf]⟩ (le_mk rfl ?_ ?_ ?_) ?_
       · exact Nat.le_refl _
       iterate 2 (case _ => (first | exact yT | refine yS ?_))
       rintro ⟨i, m⟩ ⟨hi, hmf⟩ -
       simp only at hi hmf
       have hml : m.length = k := by rw [hmf]; simp
       by_cases ci : i < p.2.length
       · have di : decide ((i : Int) < (p.2.length : Int)) = true := decide_eq_true (by omega)
         obtain ⟨t, ht⟩ : ∃ t, t = p.2.getD i 0 := ⟨_, rfl⟩
         have htg : t = p.2[i] := by rw [ht]; simp [List.getD, ci]
         have htk : t < k := hp2 t (by rw [htg]; exact List.getElem_mem _)
         have e1 : (p.2.map nA).getD i .junk = .sc (.int .i64 (t : Int)) := by rw [ht]; exact getD_nA ci
         obtain ⟨v, hv⟩ : ∃ v, v = m.getD t 0 := ⟨_, rfl⟩
         have e2 : (m.map nA).getD t .junk = .sc (.int .i64 (v : Int)) := by rw [hv]; exact getD_nA (by omega)
         have hvf : v = cntB t (Bs.take j) + (p.2.take i).count t := by rw [hv, hmf]; simp [List.getD, htk]
         have hvb : v ≤ 20000000 := by
           have a := hcb t
           have b : (p.2.take i).count t ≤ (p.2.take i).length := List.count_le_length
           rw [List.length_take] at b
           omega
         obtain ⟨v1, hv1⟩ : ∃ v1, v1 = v + 1 := ⟨_, rfl⟩
         have hev : (v : Int) + 1 = (v1 : Int) := by omega
         have hsp := splice_nA (l := m) (k := t) (x := v1) (by omega)
         have hnx : m.set t v1 = (List.range k).map fun s => cntB s (Bs.take j) + (p.2.take (i + 1)).count s := by
           rw [hmf, hv1, hvf, row_succ (f := fun s => cntB s (Bs.take j) + (p.2.take i).count s) htk]
           refine List.map_congr_left fun s _ => ?_
           rw [List.take_succ_eq_append_getElem ci, List.count_append, ← htg, List.count_singleton]
           simp only [beq_iff_eq]
           by_cases e : s = t
           · subst e; simp; omega
           · rw [if_neg e, if_neg (by omega)]; omega
         repeat (first | refine zR (ja7 @di @e1 @e2 @hev @hml @List.length_map.{0, 0} @hsp) ?_ | exact zU (ja7 @di @e1 @e2 @hev @hml @List.length_map.{0, 0} @hsp))
         refine At.of (i + 1, m.set t v1) ⟨by simp only; omega, hnx⟩ (by simp only; omega) rfl rfl (Nat.le_refl _) ?_ ?_
         · (first | exact yT | refine yS ?_)
         · (first | exact yT | refine yS ?_)
           rw [take_nA, drop_nA]
           exact hsp
       · have di : decide ((i : Int) < (p.2.length : Int)) = false := decide_eq_false (by omega)
         repeat (first | refine zR @di ?_ | exact zU @di)
         refine At.of (j + 1, m) ⟨by simp only; omega, ?_⟩ (by simp only; omega) rfl rfl (Nat.le_refl _) ?_ ?_
         · simp only
           rw [hmf, show i = p.2.length by omega, List.take_length, htj]
           refine List.map_congr_left fun s _ => ?_
           rw [cntB_append, cntB_cons, cntB_nil, Nat.add_zero]
         iterate 2 (case _ => (first | exact yT | refine yS ?_))
     · have dj : decide ((j : Int) < (Bs.length : Int)) = false := decide_eq_false (by omega)
       rw [show j = Bs.length by omega, List.take_length] at hlf
       rw [← hlf]
       repeat (first | refine zR (ja3 @dj @hll iR) ?_ | exact zU (ja3 @dj @hll iR))
end Go.Proofs.YtbcncdpaigljeaaGreatDoor.Aw
namespace Go.Proofs.YtbcncdpaigljeaaGreatDoor.Aw
open Go
set_option linter.unusedSimpArgs false
set_option linter.unusedVariables false
theorem kraft_map {f : Nat → Nat} : ∀ (l : List Nat), kraft (l.map f) = (l.map fun s => wt (f s)).sum
 | [] => rfl
 | x :: l => by rw [List.map_cons, kraft, kraft_map l, List.map_cons, List.sum_cons]
theorem sum_filter {p : Nat → Bool} {F : Nat → Nat} (h : ∀ s, p s = false → F s = 0) : ∀ (l : List Nat), (l.map F).sum = ((l.filter p).map F).sum
 | [] => rfl
 | x :: l => by
   rw [List.map_cons, List.sum_cons, sum_filter h l, List.filter_cons]
   cases q : p x with
   | true => simp
   | false => rw [h x q]; simp
theorem sum_at {F : Nat → Nat} (l : List Nat) : (l.map F).sum = sumN l.length fun i => F (l.getD i 0) := by
 have e : l.map F = (List.range l.length).map fun i => F (l.getD i 0) := by
   refine List.ext_getElem (by simp) fun i h1 h2 => ?_
   have : i < l.length := by simpa using h1
   simp [List.getD, this]
 rw [sumN, ← e]
theorem wt_pow {n : Nat} (h : 1 ≤ n) (h2 : n ≤ 15) : wt n = 2 ^ (15 - n) := by
 rw [wt, if_neg (by omega), show 32768 = 2 ^ 15 from rfl, Nat.pow_div h2 (by omega)]
theorem len_at {cs : List Nat} {most s : Nat} (hs : s < cs.length) : (lensB cs most).getD s 0 = cntB s (bestB cs most) := by
 simp [lensB, List.getD, hs]
theorem length_lens {cs : List Nat} {most : Nat} : (lensB cs most).length = cs.length := by simp [lensB]
theorem lens_each {cs : List Nat} {most : Nat} (h1 : 1 ≤ most) (h2 : (sgB cs).length ≤ 2 ^ most) {s : Nat} (hs : s < cs.length) :
   (lensB cs most).getD s 0 ≤ most ∧ (0 < (lensB cs most).getD s 0 ↔ 0 < cs.getD s 0) := by
 rw [len_at hs]
 by_cases hn : 2 ≤ (sgB cs).length
 · obtain ⟨m, ms, hm, hL, hi, hz, -⟩ := lens_facts h1 hn h2
   by_cases c : s ∈ ysB cs
   · obtain ⟨i, hi2, rfl⟩ := List.mem_iff_getElem.1 c
     rw [hi i hi2]
     have a := lnM_le (ms := m :: ms) (i := i)
     have b := lnM_pos (m := m) (ms := ms) (i := i) (by rw [hm, ← length_ys]; exact hi2)
     have d := (mem_ys.1 c).2
     exact ⟨by omega, ⟨fun _ => d, fun _ => by omega⟩⟩
   · rw [hz s c]
     have d : ¬ 0 < cs.getD s 0 := fun q => c (mem_ys.2 ⟨hs, q⟩)
     exact ⟨by omega, ⟨fun q => by omega, fun q => absurd q d⟩⟩
 · have hb : bestB cs most = sgB cs := by rw [bestB, if_pos (by omega)]
   have hc : cntB s (sgB cs) = if s ∈ usB cs then 1 else 0 := by
     rw [sgB, cntB_ys]
     exact (List.nodup_range.sublist List.filter_sublist : (usB cs).Nodup).count
   rw [hb, hc]
   by_cases c : s ∈ usB cs
   · rw [if_pos c]; exact ⟨h1, ⟨fun _ => (mem_us.1 c).2, fun _ => by omega⟩⟩
   · rw [if_neg c]; exact ⟨by omega, ⟨fun q => by omega, fun q => absurd (mem_us.2 ⟨hs, q⟩) c⟩⟩
theorem lens_full {cs : List Nat} {most : Nat} (h1 : 1 ≤ most) (h15 : most ≤ 15) (hn : 2 ≤ (sgB cs).length) (h2 : (sgB cs).length ≤ 2 ^ most) : kraft (lensB cs most) = 32768 := by
 obtain ⟨m, ms, hm, hL, hi, hz, hK⟩ := lens_facts h1 hn h2
 rw [lensB, kraft_map, sum_filter (p := fun s => decide (0 < cs.getD s 0)) fun s hs => by
   have : s ∉ ysB cs := fun q => by
     have := (mem_ys.1 q).2
     simp only [decide_eq_false_iff_not] at hs
     exact hs this
   rw [hz s this]; rfl]
 rw [show (List.range cs.length).filter (fun s => decide (0 < cs.getD s 0)) = usB cs from rfl]
 rw [← (perm_ys.map fun s => wt (cntB s (bestB cs most))).sum_nat, sum_at]
 have hlen : (ysB cs).length = m := by rw [length_ys, hm]
 rw [hlen, sumN_congr (g := fun i => 2 ^ (15 - most) * 2 ^ (most - lnM (m :: ms) i)) fun i q => by
   have hq : i < (ysB cs).length := by omega
   rw [show (ysB cs).getD i 0 = (ysB cs)[i] by simp [List.getD, hq], hi i hq]
   have a := lnM_le (ms := m :: ms) (i := i)
   have b := lnM_pos (m := m) (ms := ms) (i := i) q
   rw [wt_pow b (by omega), ← Nat.pow_add]
   congr 1
   omega]
 rw [sumN_mul, hK, ← Nat.pow_add, show 15 - most + most = 15 by omega]
end Go.Proofs.YtbcncdpaigljeaaGreatDoor.Aw
namespace Go.Proofs.YtbcncdpaigljeaaGreatDoor.Aw
open Go
set_option linter.unusedSimpArgs false
set_option linter.unusedVariables false
def cdA (nl : Bool) (l : List Nat) : AV := .agg [.sl nl none (l.map nA), .sl false none ((codesL l).map nA)]
theorem free_cdA {nl : Bool} {l : List Nat} : (cdA nl l).free = true := by simp only [cdA, AV.free, AV.free.freeL, free_nA, Bool.and_self]
structure LnOk (l : List Nat) : Prop where
 small : ∀ x ∈ l, x ≤ 15
 len : l.length ≤ 320
 kr : kraft l ≤ 32768
set_option maxRecDepth 100000 in
theorem codeOf_c [Tabs Tryz.prog] (nl : Bool) (l : List Nat) (h : LnOk l) : Con Tryz.prog n_deflate_codeOf [.sl nl none (l.map nA)] (cdA nl l) := by
 refine Con.of' mix Tryz.func86 rfl Tryz.ntmps86 e_deflate_codeOf r_deflate_codeOf (by simp) (by simp only [AV.free, AV.free.freeL, free_nA, Bool.and_self]) free_cdA ?_
 unfold s_deflate_codeOf
 have hc := huff_Codes_c nl (l.map Int.ofNat) (by rw [chkN h.small h.len, if_neg (by have := h.kr; omega)]) l toNat_ofNat.symm
 rw [← nA_zA] at hc
 repeat (first | refine zS ?_ | exact zT)
 refine goC_p _ (.inl ⟨by simp only [AV.free, AV.free.freeL, free_nA, Bool.and_self], hc⟩) ?_
 repeat (first | refine zR @cdA.eq_1 ?_ | exact zU @cdA.eq_1)
def fxL : List Nat := List.replicate 144 8 ++ (List.replicate 112 9 ++ (List.replicate 24 7 ++ List.replicate 8 8))
def fxD : List Nat := List.replicate 32 5
theorem fxL_ok : LnOk fxL := ⟨by decide +kernel, by decide +kernel, by decide +kernel⟩
theorem fxD_ok : LnOk fxD := ⟨by decide +kernel, by decide +kernel, by decide +kernel⟩
def cdsA (l d : List Nat) : AV := .agg [.sl false none (l.map nA), .sl false none ((codesL l).map nA), .sl false none (d.map nA), .sl false none ((codesL d).map nA)]
theorem free_cdsA {l d : List Nat} : (cdsA l d).free = true := by simp only [cdsA, AV.free, AV.free.freeL, free_nA, Bool.and_self]
set_option maxRecDepth 100000 in
theorem fixedCodes_c [Tabs Tryz.prog] : Con Tryz.prog n_deflate_fixedCodes [] (cdsA fxL fxD) := by
 refine Con.of' mix Tryz.func48 rfl Tryz.ntmps48 e_deflate_fixedCodes r_deflate_fixedCodes (by simp) rfl free_cdsA ?_
 unfold s_deflate_fixedCodes
 have p1 := slices_Repeat_c 8 144 (by omega) (by omega)
 have p2 := slices_Repeat_c 9 112 (by omega) (by omega)
 have p3 := slices_Repeat_c 7 24 (by omega) (by omega)
 have p4 := slices_Repeat_c 8 8 (by omega) (by omega)
 have p5 := slices_Repeat_c 5 32 (by omega) (by omega)
 have pc := slices_ConcatI4 (List.replicate 144 8) (List.replicate 112 9) (List.replicate 24 7) (List.replicate 8 8) (by simp) (by simp)
 have t1 := codeOf_c false fxL fxL_ok
 have t2 := codeOf_c false fxD fxD_ok
 have hL : List.replicate 144 8 ++ (List.replicate 112 9 ++ (List.replicate 24 7 ++ List.replicate 8 8)) = fxL := rfl
 have hD : List.replicate 32 5 = fxD := rfl
 rw [hL] at pc
 rw [hD] at p5
 obtain ⟨A, hA⟩ : ∃ A, A = List.replicate 144 8 := ⟨_, rfl⟩
 obtain ⟨B, hB⟩ : ∃ B, B = List.replicate 112 9 := ⟨_, rfl⟩
 obtain ⟨C, hC⟩ : ∃ C, C = List.replicate 24 7 := ⟨_, rfl⟩
 obtain ⟨D, hDd⟩ : ∃ D, D = List.replicate 8 8 := ⟨_, rfl⟩
 rw [← hA] at p1 pc
 rw [← hB] at p2 pc
 rw [← hC] at p3 pc
 rw [← hDd] at p4 pc
 obtain ⟨F, hF⟩ : ∃ F, F = fxL := ⟨_, rfl⟩
 obtain ⟨G, hG⟩ : ∃ G, G = fxD := ⟨_, rfl⟩
 rw [← hF] at pc t1 ⊢
 rw [← hG] at p5 t2 ⊢
 clear hL hD hF hG
 unfold cdA at t1 t2
 repeat (first | refine zR (ja2 fR iR) ?_ | exact zU (ja2 fR iR))
 refine goC_f 1 1 (nl := false) (cells := [.sc (.int .i64 8)]) [.sl false none [.sc (.int .i64 ((8 : Nat) : Int))], int ((144 : Nat) : Int)] _ (by (first | exact yT | refine yS ?_)) (by (first | exact yU @free_nA | refine yR @free_nA ?_)) ?_ (by (first | exact yU @free_nA | refine yR @free_nA ?_)) p1 ?_
 · (first | exact yU (ja2 fR iR) | refine yR (ja2 fR iR) ?_)
 repeat (first | refine zR (ja2 fR iR) ?_ | exact zU (ja2 fR iR))
 refine goC_f 3 2 (nl := false) (cells := [.sc (.int .i64 9)]) [.sl false none [.sc (.int .i64 ((9 : Nat) : Int))], int ((112 : Nat) : Int)] _ (by (first | exact yT | refine yS ?_)) (by (first | exact yU @free_nA | refine yR @free_nA ?_)) ?_ (by (first | exact yU @free_nA | refine yR @free_nA ?_)) p2 ?_
 · (first | exact yU (ja2 fR iR) | refine yR (ja2 fR iR) ?_)
 repeat (first | refine zR (ja2 fR iR) ?_ | exact zU (ja2 fR iR))
 refine goC_f 5 3 (nl := false) (cells := [.sc (.int .i64 7)]) [.sl false none [.sc (.int .i64 ((7 : Nat) : Int))], int ((24 : Nat) : Int)] _ (by (first | exact yT | refine yS ?_)) (by (first | exact yU @free_nA | refine yR @free_nA ?_)) ?_ (by (first | exact yU @free_nA | refine yR @free_nA ?_)) p3 ?_
 · (first | exact yU (ja2 fR iR) | refine yR (ja2 fR iR) ?_)
 repeat (first | refine zR (ja2 fR iR) ?_ | exact zU (ja2 fR iR))
 refine goC_f 7 4 (nl := false) (cells := [.sc (.int .i64 8)]) [.sl false none [.sc (.int .i64 ((8 : Nat) : Int))], int ((8 : Nat) : Int)] _ (by (first | exact yT | refine yS ?_)) (by (first | exact yU @free_nA | refine yR @free_nA ?_)) ?_ (by (first | exact yU @free_nA | refine yR @free_nA ?_)) p4 ?_
 · (first | exact yU (ja2 fR iR) | refine yR (ja2 fR iR) ?_)
 repeat (first | refine zR (ja2 fR iR) ?_ | exact zU (ja2 fR iR))
 refine goC_p _ (.inl ⟨by simp only [AV.free, AV.free.freeL, free_nA, Bool.and_self], pc⟩) ?_
 repeat (first | refine zR (ja2 fR iR) ?_ | exact zU (ja2 fR iR))
 refine goC_p _ (.inl ⟨by simp only [AV.free, AV.free.freeL, free_nA, Bool.and_self], t1⟩) ?_
 repeat (first | refine zR (ja2 fR iR) ?_ | exact zU (ja2 fR iR))
 refine goC_f 12 5 (nl := false) (cells := [.sc (.int .i64 5)]) [.sl false none [.sc (.int .i64 ((5 : Nat) : Int))], int ((32 : Nat) : Int)] _ (by (first | exact yT | refine yS ?_)) (by (first | exact yU @free_nA | refine yR @free_nA ?_)) ?_ (by (first | exact yU @free_nA | refine yR @free_nA ?_)) p5 ?_
 · (first | exact yU (ja2 fR iR) | refine yR (ja2 fR iR) ?_)
 repeat (first | refine zR (ja2 fR iR) ?_ | exact zU (ja2 fR iR))
 refine goC_p _ (.inl ⟨by simp only [AV.free, AV.free.freeL, free_nA, Bool.and_self], t2⟩) ?_
 repeat (first | refine zR (ja3 fR iR @cdsA.eq_1) ?_ | exact zU (ja3 fR iR @cdsA.eq_1))
structure CtOk (c : List Nat) (q : Nat) : Prop where
 len : c.length ≤ 300
 small : ∀ x ∈ c, x ≤ 100000
 pos : 1 ≤ q
 most : q ≤ 15
 room : c.length ≤ 2 ^ q
theorem sg_le {c : List Nat} : (sgB c).length ≤ c.length := by
 rw [sgB, List.length_map]
 exact Nat.le_trans (List.length_filter_le _ _) (by simp)
theorem badE_zero {c : List Nat} {q : Nat} (h : CtOk c q) : badE (c.map Int.ofNat) (q : Int) = 0 := by
 have h1 := h.len
 have h2 := h.pos
 have h3 := h.most
 have h4 := h.room
 have h6 := usedC_le (cs := c.map Int.ofNat)
 rw [List.length_map] at h6
 have hb : (c.map Int.ofNat).any bdC = false := by
   rw [List.any_eq_false]
   intro x hx
   obtain ⟨y, hy, rfl⟩ := List.mem_map.1 hx
   have := h.small y hy
   unfold bdC
   simp only [Int.ofNat_eq_natCast, Bool.or_eq_true, decide_eq_true_eq, not_or]
   omega
 unfold badE
 rw [if_neg (by omega), List.length_map, if_neg (by omega), hb, if_neg (by simp), Int.toNat_natCast, if_neg (by omega)]
theorem sum_le {F : Nat → Nat} (h : ∀ s, F s ≤ 32768) : ∀ (l : List Nat), (l.map F).sum ≤ 32768 * l.length
 | [] => Nat.le_refl _
 | x :: l => by
   have := sum_le h l
   have := h x
   rw [List.map_cons, List.sum_cons, List.length_cons]; omega
theorem lens_LnOk {c : List Nat} {q : Nat} (h : CtOk c q) : LnOk (lensB c q) := by
 have h2 := h.pos
 have h3 := h.most
 have h5 := sg_le (c := c)
 have hr : (sgB c).length ≤ 2 ^ q := Nat.le_trans h5 h.room
 refine ⟨fun x hx => ?_, by rw [length_lens]; have := h.len; omega, ?_⟩
 · obtain ⟨i, hi, rfl⟩ := List.getElem_of_mem hx
   rw [length_lens] at hi
   have := (lens_each h2 hr hi).1
   have e : (lensB c q).getD i 0 = (lensB c q)[i]'(by rw [length_lens]; exact hi) := by simp [List.getD, length_lens, hi]
   rw [e] at this
   omega
 · by_cases hn : 2 ≤ (sgB c).length
   · rw [lens_full h2 h3 hn hr]; exact Nat.le_refl _
   · rw [lensB, kraft_map, sum_filter (p := fun s => decide (0 < c.getD s 0)) fun s hs => by
       rw [bestB, if_pos (by omega), sgB, cntB_ys, List.count_eq_zero_of_not_mem (fun q => by simp only [decide_eq_false_iff_not] at hs; exact hs (mem_us.1 q).2)]
       rfl]
     rw [show (List.range c.length).filter (fun s => decide (0 < c.getD s 0)) = usB c from rfl]
     have := sum_le (F := fun s => wt (cntB s (bestB c q))) (fun s => wt_le) (usB c)
     have hl : (usB c).length = (sgB c).length := by rw [sgB, List.length_map]
     omega
set_option maxRecDepth 100000 in
theorem bestCode_c [Tabs Tryz.prog] (nl : Bool) (c : List Nat) (q : Nat) (h : CtOk c q) : Con Tryz.prog n_deflate_bestCode [.sl nl none (c.map nA), int (q : Int)] (cdA false (lensB c q)) := by
 refine Con.of' mix Tryz.func92 rfl Tryz.ntmps92 e_deflate_bestCode r_deflate_bestCode (by simp) (by simp only [AV.free, AV.free.freeL, free_nA, int, Bool.and_self]) free_cdA ?_
 unfold s_deflate_bestCode
 have hl := huff_Lengths_c nl (c.map Int.ofNat) (q : Int)
 rw [lenG, badE_zero h, if_neg (by simp), toNat_ofNat, ← nA_zA, Int.toNat_natCast] at hl
 have hc := codeOf_c false (lensB c q) (lens_LnOk h)
 obtain ⟨l, hl2⟩ : ∃ l, l = lensB c q := ⟨_, rfl⟩
 rw [← hl2] at hl hc ⊢
 unfold cdA at hc
 repeat (first | refine zS ?_ | exact zT)
 refine goC_p _ (.inl ⟨by simp only [AV.free, AV.free.freeL, free_nA, int, Bool.and_self], hl⟩) ?_
 repeat (first | refine zS ?_ | exact zT)
 refine goC_p _ (.inl ⟨by simp only [AV.free, AV.free.freeL, free_nA, int, Bool.and_self], hc⟩) ?_
 repeat (first | refine zR @cdA.eq_1 ?_ | exact zU @cdA.eq_1)
end Go.Proofs.YtbcncdpaigljeaaGreatDoor.Aw
namespace Go.Proofs.YtbcncdpaigljeaaGreatDoor.Aw
open Go
set_option linter.unusedSimpArgs false
set_option linter.unusedVariables false
abbrev K3 := UInt8 × UInt8 × UInt8
def kA (k : K3) : AV := .agg [u8 k.1, u8 k.2.1, u8 k.2.2]
def enA (e : K3 × Nat) : AV := .tup [kA e.1, nA e.2]
theorem u8_inj {a b : UInt8} (h : u8 a = u8 b) : a = b := by
 simp only [u8, AV.sc.injEq, Value.int.injEq, true_and] at h
 exact UInt8.toNat_inj.1 (by omega)
theorem kA_inj {a b : K3} : kA a = kA b ↔ a = b := by
 constructor
 · intro h
   obtain ⟨a1, a2, a3⟩ := a
   obtain ⟨b1, b2, b3⟩ := b
   simp only [kA, AV.agg.injEq, List.cons.injEq, and_true] at h
   rw [u8_inj h.1, u8_inj h.2.1, u8_inj h.2.2]
 · rintro rfl; rfl
def mfd (k : K3) : List (K3 × Nat) → Option Nat
 | [] => none
 | e :: m => if k = e.1 then some e.2 else mfd k m
def mpt (k : K3) (p : Nat) : List (K3 × Nat) → List (K3 × Nat)
 | [] => [(k, p)]
 | e :: m => if k = e.1 then (e.1, p) :: m else e :: mpt k p m
theorem mfind_en {k : K3} : ∀ {m : List (K3 × Nat)}, mfind (kA k) (m.map enA) = (mfd k m).map nA
 | [] => rfl
 | e :: m => by
   rw [List.map_cons, enA, mfind, mfd]
   by_cases c : k = e.1
   · rw [if_pos (kA_inj.2 c), if_pos c]; rfl
   · rw [if_neg (fun h => c (kA_inj.1 h)), if_neg c]; exact mfind_en
theorem mput_en {k : K3} {p : Nat} : ∀ {m : List (K3 × Nat)}, mput (kA k) (nA p) (m.map enA) = (mpt k p m).map enA
 | [] => rfl
 | e :: m => by
   rw [List.map_cons, enA, mput, mpt]
   by_cases c : k = e.1
   · rw [if_pos (kA_inj.2 c), if_pos c]; rfl
   · rw [if_neg (fun h => c (kA_inj.1 h)), if_neg c, List.map_cons, mput_en]; rfl
abbrev z3 : Value := .agg #[.int .u8 0, .int .u8 0, .int .u8 0]
theorem like_u8 {z : Int} {c : UInt8} : likeA1 (.int .u8 z) (u8 c) := ⟨rfl, Int.natCast_nonneg _, by have := c.toNat_lt; show (c.toNat : Int) ≤ 255; omega⟩
theorem like_k {k : K3} : likeA z3 (kA k) := ⟨like_u8, like_u8, like_u8, trivial⟩
theorem ents_en : ∀ {m : List (K3 × Nat)}, entsOk z3 (m.map enA)
 | [] => trivial
 | e :: m => ⟨like_k, ents_en⟩
theorem ents_enT {m : List (K3 × Nat)} : entsOk z3 (m.map enA) = True := eq_true ents_en
theorem like_kT {k : K3} : likeA z3 (.agg [u8 k.1, u8 k.2.1, u8 k.2.2]) = True := eq_true like_k
def fdR (nl : Bool) (b : List UInt8) (t n : Nat) : List AV := [.sl nl none (b.map u8), .mp 1001 0, .own 1002 0 none 0 n, .sc (.int .i64 (t : Int))]
abbrev fdI (nl : Bool) (b : List UInt8) (t : Nat) (m : List (K3 × Nat)) (A : List Int) : List AO := [.row false (fdR nl b t A.length), .row false [.tup (m.map enA)], .row false (A.map int)]
abbrev fdO (nl : Bool) (b : List UInt8) (t : Nat) (m : List (K3 × Nat)) (A : List Int) : List (Nat × Nat × AO) := [(1000, 0, .row false (fdR nl b t A.length)), (1001, 0, .row false [.tup (m.map enA)]), (1002, 0, .row false (A.map int))]
theorem free_en : ∀ {m : List (K3 × Nat)}, AV.free.freeL (m.map enA) = true := fun {m} => freeL_iff.2 fun x hx => by
 obtain ⟨e, _, rfl⟩ := List.mem_map.1 hx; rfl
theorem renL_en {ρ : Nat → Nat → Nat × Nat} {m : List (K3 × Nat)} : ren.renL ρ (m.map enA) = m.map enA := renL_free ρ _ free_en
theorem fd_gl {nl : Bool} {b : List UInt8} {t : Nat} {m : List (K3 × Nat)} {A : List Int} : ∀ n cells, AO.row n cells ∈ fdI nl b t m A → AV.gl.glL 1 cells := by
 intro n cells h
 simp only [List.mem_cons, AO.row.injEq, List.not_mem_nil, or_false] at h
 obtain ⟨-, rfl⟩ | ⟨-, rfl⟩ | ⟨-, rfl⟩ := h
 · simp only [fdR, AV.gl.glL, AV.gl, and_true]
   exact ⟨glL_of_free _ _ free_u8, by omega, by omega⟩
 · simp only [AV.gl.glL, AV.gl, and_true]
   exact glL_of_free _ _ free_en
 · exact glL_of_free _ _ free_zA
def startM (b : List UInt8) (p : Int) : Option K3 := if p < 0 ∨ (b.length : Int) - p < 3 then none else some (b.getD p.toNat 0, b.getD (p.toNat + 1) 0, b.getD (p.toNat + 2) 0)
theorem cut3 {b : List UInt8} {p : Nat} (h : p + 3 ≤ b.length) : ((b.drop p).map u8).take 3 = [u8 (b.getD p 0), u8 (b.getD (p + 1) 0), u8 (b.getD (p + 2) 0)] := by
 rw [List.drop_eq_getElem_cons (by omega), List.drop_eq_getElem_cons (by omega), List.drop_eq_getElem_cons (by omega)]
 simp only [List.map_cons, List.take_succ_cons, List.take_zero, List.getD, List.getElem?_eq_getElem (show p < b.length by omega), List.getElem?_eq_getElem (show p + 1 < b.length by omega), List.getElem?_eq_getElem (show p + 2 < b.length by omega), Option.getD_some]
set_option maxRecDepth 100000 in
theorem fd_start_h [Tabs Tryz.prog] (nl : Bool) (b : List UInt8) (hb : b.length ≤ 20000) (t : Nat) (m : List (K3 × Nat)) (A : List Int) (p : Int) (h1 : -40000 ≤ p) (h2 : p ≤ 20000) :
   HCon Tryz.prog n_deflate_finder_start [.op 1000 0 0, .sc (.int .i64 p)] (fdI nl b t m A) (.tup [kA ((startM b p).getD (0, 0, 0)), boo (startM b p).isSome]) (fdO nl b t m A) 3 := by
 refine HCon.of' mix Tryz.func129 rfl Tryz.ntmps129 e_deflate_finder_start r_deflate_finder_start (by simp) (by simp [AV.gl, AV.gl.glL]) fd_gl ?_
 unfold s_deflate_finder_start
 have hr0 : (startM b p) = none → AV.tup [kA ((startM b p).getD (0, 0, 0)), boo (startM b p).isSome] = .tup [.agg [.sc (.int .u8 0), .sc (.int .u8 0), .sc (.int .u8 0)], boo false] := fun h => by rw [h]; rfl
 by_cases c1 : p < 0
 · have d1 := decide_eq_true c1
   rw [hr0 (if_pos (.inl c1))]
   repeat (first | refine zR (ja3 @d1 @fdR.eq_1 iR) ?_ | exact zU (ja3 @d1 @fdR.eq_1 iR))
 have d1 := decide_eq_false c1
 obtain ⟨q, rfl⟩ : ∃ q : Nat, p = (q : Int) := ⟨p.toNat, by omega⟩
 by_cases c2 : (b.length : Int) - (q : Int) < 3
 · have d2 := decide_eq_true c2
   rw [hr0 (if_pos (.inr c2))]
   repeat (first | refine zR (ja5 @d1 @d2 @fdR.eq_1 iR @List.length_map.{0, 0}) ?_ | exact zU (ja5 @d1 @d2 @fdR.eq_1 iR @List.length_map.{0, 0}))
 have d2 := decide_eq_false c2
 have hs : startM b (q : Int) = some (b.getD q 0, b.getD (q + 1) 0, b.getD (q + 2) 0) := by rw [startM, if_neg (by omega)]; rfl
 have hc := cut3 (b := b) (p := q) (by omega)
 have hdl : (b.drop q).length = b.length - q := List.length_drop
 obtain ⟨x, hx⟩ : ∃ x, x = b.getD q 0 := ⟨_, rfl⟩
 obtain ⟨y, hy⟩ : ∃ x, x = b.getD (q + 1) 0 := ⟨_, rfl⟩
 obtain ⟨z, hz⟩ : ∃ x, x = b.getD (q + 2) 0 := ⟨_, rfl⟩
 obtain ⟨r, hr⟩ : ∃ r, r = b.drop q := ⟨_, rfl⟩
 rw [← hx, ← hy, ← hz, ← hr] at hc
 rw [← hx, ← hy, ← hz] at hs
 rw [← hr] at hdl
 have hrr : (b.map u8).drop q = r.map u8 := by rw [hr, List.map_drop]
 have hmin : min r.length 3 = 3 := by omega
 have ho : AV.tup [kA ((startM b (q : Int)).getD (0, 0, 0)), boo (startM b (q : Int)).isSome] = .tup [.agg [u8 x, u8 y, u8 z], boo true] := by rw [hs]; rfl
 rw [ho]
 repeat (first | refine zR (ja8 @d1 @d2 @fdR.eq_1 iR @List.length_map.{0, 0} @hrr @hc @hmin) ?_ | exact zU (ja8 @d1 @d2 @fdR.eq_1 iR @List.length_map.{0, 0} @hrr @hc @hmin))
def alikeM (b : List UInt8) (p q most : Nat) : Nat := ((List.range most).takeWhile fun i => b.getD (p + i) 0 == b.getD (q + i) 0).length
theorem alike_eq {b : List UInt8} {p q most n : Nat} (hn : n ≤ most) (h : ∀ i, i < n → b.getD (p + i) 0 = b.getD (q + i) 0) (hx : n = most ∨ b.getD (p + n) 0 ≠ b.getD (q + n) 0) : alikeM b p q most = n := by
 have e : List.range most = List.range n ++ (List.range (most - n)).map (n + ·) := by
   have := List.range_add (n := n) (m := most - n)
   rwa [show n + (most - n) = most by omega] at this
 unfold alikeM
 rw [e, List.takeWhile_append_of_pos (by
   intro i hi
   simp only [beq_iff_eq]
   exact h i (List.mem_range.1 hi)), List.length_append, List.length_range]
 have : (((List.range (most - n)).map (n + ·)).takeWhile fun i => b.getD (p + i) 0 == b.getD (q + i) 0) = [] := by
   rcases hx with hx | hx
   · rw [hx, Nat.sub_self]; rfl
   · by_cases c : most - n = 0
     · rw [c]; rfl
     · rw [show most - n = (most - n - 1) + 1 by omega, List.range_succ_eq_map, List.map_cons, List.takeWhile_cons, if_neg]
       simpa using hx
 rw [this]
 rfl
theorem alike_le {b : List UInt8} {p q most : Nat} : alikeM b p q most ≤ most := by
 have := (List.takeWhile_sublist (l := List.range most) fun i => b.getD (p + i) 0 == b.getD (q + i) 0).length_le
 rwa [List.length_range] at this
theorem alike_get {b : List UInt8} {p q most i : Nat} (h : i < alikeM b p q most) : b.getD (p + i) 0 = b.getD (q + i) 0 := by
 have h2 := List.all_takeWhile (l := List.range most) (p := fun i => b.getD (p + i) 0 == b.getD (q + i) 0)
 have hp := List.takeWhile_prefix (l := List.range most) fun i => b.getD (p + i) 0 == b.getD (q + i) 0
 rw [List.all_eq_true] at h2
 have hm := List.getElem_mem (l := (List.range most).takeWhile fun i => b.getD (p + i) 0 == b.getD (q + i) 0) h
 have he := hp.getElem h
 rw [List.getElem_range] at he
 rw [he] at hm
 simpa using h2 i hm
set_option maxRecDepth 100000 in
theorem fd_alike_h [Tabs Tryz.prog] (nl : Bool) (b : List UInt8) (hb : b.length ≤ 20000) (t : Nat) (m : List (K3 × Nat)) (A : List Int) (p q most : Nat) (hp : p + most ≤ b.length) (hq : q + most ≤ b.length) :
   HCon Tryz.prog n_deflate_finder_alike [.op 1000 0 0, .sc (.int .i64 (p : Int)), .sc (.int .i64 (q : Int)), .sc (.int .i64 (most : Int))] (fdI nl b t m A) (int (alikeM b p q most : Int)) (fdO nl b t m A) 1 := by
 refine HCon.of' mix Tryz.func128 rfl Tryz.ntmps128 e_deflate_finder_alike r_deflate_finder_alike (by simp) (by simp [AV.gl, AV.gl.glL]) fd_gl ?_
 unfold s_deflate_finder_alike
 repeat (first | refine zS ?_ | exact zT)
 refine SWp.loop (α := Nat) (fun n => mk 37 1 [(0, .op 1000 0 0), (1, .sc (.int .i64 (p : Int))), (2, .sc (.int .i64 (q : Int))), (3, .sc (.int .i64 (most : Int))), (9, int n)] (fdO nl b t m A))
   (fun n => n ≤ most ∧ ∀ i, i < n → b.getD (p + i) 0 = b.getD (q + i) 0) (fun n => most - n) 0 ⟨Nat.zero_le _, fun i h => by omega⟩ (le_mk rfl ?_ ?_ ?_) ?_
 · exact Nat.le_refl _
 iterate 2 (case _ => (first | exact yT | refine yS ?_))
 rintro n ⟨hn, heq⟩ -
 by_cases c : n < most
 · have d : decide ((n : Int) < (most : Int)) = true := decide_eq_true (by omega)
   have e1 : (p : Int) + (n : Int) = ((p + n : Nat) : Int) := by omega
   have e2 : (q : Int) + (n : Int) = ((q + n : Nat) : Int) := by omega
   obtain ⟨pn, hpn⟩ : ∃ x, x = p + n := ⟨_, rfl⟩
   obtain ⟨qn, hqn⟩ : ∃ x, x = q + n := ⟨_, rfl⟩
   rw [← hpn] at e1
   rw [← hqn] at e2
   have g1 : (b.map u8).getD pn .junk = u8 (b.getD pn 0) := getD_u8 (by omega)
   have g2 : (b.map u8).getD qn .junk = u8 (b.getD qn 0) := getD_u8 (by omega)
   obtain ⟨x, hx⟩ : ∃ x, x = b.getD pn 0 := ⟨_, rfl⟩
   obtain ⟨y, hy⟩ : ∃ x, x = b.getD qn 0 := ⟨_, rfl⟩
   rw [← hx] at g1
   rw [← hy] at g2
   by_cases cx : x = y
   · have dx : decide ((x.toNat : Int) = (y.toNat : Int)) = true := decide_eq_true (by rw [cx])
     repeat (first | refine zR (ja8 @d @fdR.eq_1 iR @e1 @e2 @List.length_map.{0, 0} @g1 (ja2 @g2 @dx)) ?_ | exact zU (ja8 @d @fdR.eq_1 iR @e1 @e2 @List.length_map.{0, 0} @g1 (ja2 @g2 @dx)))
     refine At.of (n + 1) ⟨by omega, fun i hi => ?_⟩ (by omega) rfl rfl (Nat.le_refl _) ?_ ?_
     · by_cases ci : i = n
       · subst ci; rw [← hpn, ← hqn, ← hx, ← hy, cx]
       · exact heq i (by omega)
     iterate 2 (case _ => (first | exact yU @fdR.eq_1 | refine yR @fdR.eq_1 ?_))
   · have dx : decide ((x.toNat : Int) = (y.toNat : Int)) = false := decide_eq_false (fun h => cx (UInt8.toNat_inj.1 (by omega)))
     rw [alike_eq hn heq (.inr (by rw [← hpn, ← hqn, ← hx, ← hy]; exact cx))]
     repeat (first | refine zR (ja8 @d @fdR.eq_1 iR @e1 @e2 @List.length_map.{0, 0} @g1 (ja2 @g2 @dx)) ?_ | exact zU (ja8 @d @fdR.eq_1 iR @e1 @e2 @List.length_map.{0, 0} @g1 (ja2 @g2 @dx)))
 · have d : decide ((n : Int) < (most : Int)) = false := decide_eq_false (by omega)
   rw [alike_eq hn heq (.inl (by omega))]
   repeat (first | refine zR (ja3 @d @fdR.eq_1 iR) ?_ | exact zU (ja3 @d @fdR.eq_1 iR))
end Go.Proofs.YtbcncdpaigljeaaGreatDoor.Aw
namespace Go.Proofs.YtbcncdpaigljeaaGreatDoor.Aw
open Go
set_option linter.unusedSimpArgs false
set_option linter.unusedVariables false
def lastM (b : List UInt8) (m : List (K3 × Nat)) (p : Int) : Int := match startM b p with
 | some k => (match mfd k m with
   | some q => (q : Int)
   | none => -32769)
 | none => -32769
set_option maxRecDepth 100000 in
theorem fd_lastLike_h [Tabs Tryz.prog] (nl : Bool) (b : List UInt8) (hb : b.length ≤ 20000) (t : Nat) (m : List (K3 × Nat)) (A : List Int) (p : Int) (h1 : -40000 ≤ p) (h2 : p ≤ 20000) :
   HCon Tryz.prog n_deflate_finder_lastLike [.op 1000 0 0, .sc (.int .i64 p)] (fdI nl b t m A) (int (lastM b m p)) (fdO nl b t m A) 5 := by
 refine HCon.of' mix Tryz.func127 rfl Tryz.ntmps127 e_deflate_finder_lastLike r_deflate_finder_lastLike (by simp) (by simp [AV.gl, AV.gl.glL]) fd_gl ?_
 unfold s_deflate_finder_lastLike
 have st := fd_start_h nl b hb t m A p h1 h2
 cases hs : startM b p with
 | none =>
   have hl : lastM b m p = -32769 := by rw [lastM, hs]
   have ho : AV.tup [kA ((startM b p).getD (0, 0, 0)), boo (startM b p).isSome] = .tup [.agg [.sc (.int .u8 0), .sc (.int .u8 0), .sc (.int .u8 0)], boo false] := by rw [hs]; rfl
   rw [ho] at st
   rw [hl]
   repeat (first | refine zS ?_ | exact zT)
   refine goC_h [(1000, 0), (1001, 0), (1002, 0)] 2000 st (by simp) (by simp) ?_ ?_ ?_
   iterate 2 (case _ => (first | exact yU (ja4 @fdR.eq_1 iR @renL_en @ren_tup) | refine yR (ja4 @fdR.eq_1 iR @renL_en @ren_tup) ?_))
   repeat (first | refine zR (ja4 @fdR.eq_1 iR @renL_en @ren_tup) ?_ | exact zU (ja4 @fdR.eq_1 iR @renL_en @ren_tup))
 | some k =>
   obtain ⟨x, y, z⟩ := k
   have ho : AV.tup [kA ((startM b p).getD (0, 0, 0)), boo (startM b p).isSome] = .tup [.agg [u8 x, u8 y, u8 z], boo true] := by rw [hs]; rfl
   rw [ho] at st
   have hm : mfind (.agg [.sc (.int .u8 (x.toNat : Int)), .sc (.int .u8 (y.toNat : Int)), .sc (.int .u8 (z.toNat : Int))]) (m.map enA) = (mfd (x, y, z) m).map nA := mfind_en (k := (x, y, z))
   have hk : likeA (.agg #[.int .u8 0, .int .u8 0, .int .u8 0]) (.agg [.sc (.int .u8 (x.toNat : Int)), .sc (.int .u8 (y.toNat : Int)), .sc (.int .u8 (z.toNat : Int))]) = True := like_kT (k := (x, y, z))
   obtain ⟨e, he⟩ : ∃ e, e = m.map enA := ⟨_, rfl⟩
   have hen : entsOk (.agg #[.int .u8 0, .int .u8 0, .int .u8 0]) e = True := by rw [he]; exact ents_enT
   have hre : ∀ ρ, ren.renL ρ e = e := fun ρ => by rw [he]; exact renL_en
   rw [← he] at hm
   simp only [fdI, fdO, ← he] at st ⊢
   cases hf : mfd (x, y, z) m with
   | none =>
     have hl : lastM b m p = -32769 := by rw [lastM, hs]; simp only [hf]
     rw [hf] at hm
     rw [hl]
     simp only [Option.map_none] at hm
     repeat (first | refine zS ?_ | exact zT)
     refine goC_h [(1000, 0), (1001, 0), (1002, 0)] 2000 st (by simp) (by simp) ?_ ?_ ?_
     iterate 2 (case _ => (first | exact yU (ja4 @fdR.eq_1 iR @hre @ren_tup) | refine yR (ja4 @fdR.eq_1 iR @hre @ren_tup) ?_))
     repeat (first | refine zR (ja8 @fdR.eq_1 iR @hre @ren_tup @hm @hk @hen (ja3 @zeroA.eq_1 @zeroA.eq_2 @Option.isSome_none.{0})) ?_ | exact zU (ja8 @fdR.eq_1 iR @hre @ren_tup @hm @hk @hen (ja3 @zeroA.eq_1 @zeroA.eq_2 @Option.isSome_none.{0})))
   | some q =>
     have hl : lastM b m p = (q : Int) := by rw [lastM, hs]; simp only [hf]
     rw [hf] at hm
     rw [hl]
     simp only [Option.map_some, nA] at hm
     repeat (first | refine zS ?_ | exact zT)
     refine goC_h [(1000, 0), (1001, 0), (1002, 0)] 2000 st (by simp) (by simp) ?_ ?_ ?_
     iterate 2 (case _ => (first | exact yU (ja4 @fdR.eq_1 iR @hre @ren_tup) | refine yR (ja4 @fdR.eq_1 iR @hre @ren_tup) ?_))
     repeat (first | refine zR (ja8 @fdR.eq_1 iR @hre @ren_tup @hm @hk @hen (ja3 @zeroA.eq_1 @zeroA.eq_2 @Option.isSome_some.{0})) ?_ | exact zU (ja8 @fdR.eq_1 iR @hre @ren_tup @hm @hk @hen (ja3 @zeroA.eq_1 @zeroA.eq_2 @Option.isSome_some.{0})))
def longM (b : List UInt8) (A : List Int) (at_ most : Nat) : Nat → Int → Nat → Nat → Nat × Nat
 | 0, _, l, k => (l, k)
 | t + 1, p, l, k => if 32768 < (at_ : Int) - p ∨ l = most then (l, k) else
   if l < alikeM b p.toNat at_ most then longM b A at_ most t (A.getD p.toNat 0) (alikeM b p.toNat at_ most) (at_ - p.toNat)
   else longM b A at_ most t (A.getD p.toNat 0) l k
structure FInv (b : List UInt8) (m : List (K3 × Nat)) (A : List Int) (at_ : Nat) : Prop where
 len : A.length = b.length
 map : ∀ e ∈ m, e.2 < at_ ∧ startM b (e.2 : Int) = some e.1
 chain : ∀ p, p < at_ → (startM b (p : Int)).isSome = true → A.getD p 0 = -32769 ∨ (0 ≤ A.getD p 0 ∧ A.getD p 0 < (p : Int) ∧ startM b (A.getD p 0) = startM b (p : Int))
theorem mfd_mem {k : K3} {q : Nat} : ∀ {m : List (K3 × Nat)}, mfd k m = some q → (k, q) ∈ m
 | [], h => by simp [mfd] at h
 | e :: m, h => by
   rw [mfd] at h
   split at h
   · rename_i c; cases h; rw [c]; simp
   · exact List.mem_cons_of_mem _ (mfd_mem h)
theorem lastM_ok {b : List UInt8} {m : List (K3 × Nat)} {A : List Int} {at_ : Nat} (h : FInv b m A at_) : lastM b m (at_ : Int) = -32769 ∨ (0 ≤ lastM b m (at_ : Int) ∧ lastM b m (at_ : Int) < (at_ : Int) ∧ startM b (lastM b m (at_ : Int)) = startM b (at_ : Int) ∧ (startM b (at_ : Int)).isSome = true) := by
 cases hs : startM b (at_ : Int) with
 | none => exact .inl (by rw [lastM, hs])
 | some k =>
   cases hf : mfd k m with
   | none => exact .inl (by rw [lastM, hs]; simp only [hf])
   | some q =>
     have hl : lastM b m (at_ : Int) = (q : Int) := by rw [lastM, hs]; simp only [hf]
     obtain ⟨h1, h2⟩ := h.map _ (mfd_mem hf)
     rw [hl]
     exact .inr ⟨Int.natCast_nonneg _, Int.ofNat_lt.2 h1, h2, rfl⟩
def runOk (b : List UInt8) (at_ most : Nat) (r : Nat × Nat) : Prop := r.1 = 0 ∨ (3 ≤ r.1 ∧ r.1 ≤ most ∧ 1 ≤ r.2 ∧ r.2 ≤ at_ ∧ ∀ i, i < r.1 → b.getD (at_ - r.2 + i) 0 = b.getD (at_ + i) 0)
theorem start_eq3 {b : List UInt8} {p q : Int} (h : startM b p = startM b q) (hs : (startM b q).isSome = true) (hp : 0 ≤ p) (hq : 0 ≤ q) : ∀ i, i < 3 → b.getD (p.toNat + i) 0 = b.getD (q.toNat + i) 0 := by
 have h1 : startM b q = some (b.getD q.toNat 0, b.getD (q.toNat + 1) 0, b.getD (q.toNat + 2) 0) := by
   unfold startM at hs ⊢
   split at hs
   · simp at hs
   · rename_i c; rw [if_neg c]
 have h2 : startM b p = some (b.getD p.toNat 0, b.getD (p.toNat + 1) 0, b.getD (p.toNat + 2) 0) := by
   rw [h1] at h
   unfold startM at h ⊢
   split at h
   · simp at h
   · rename_i c; rw [if_neg c]
 rw [h1, h2] at h
 simp only [Option.some.injEq, Prod.mk.injEq] at h
 intro i hi
 match i, hi with
 | 0, _ => exact h.1
 | 1, _ => exact h.2.1
 | 2, _ => exact h.2.2
theorem longM_ok {b : List UInt8} {m : List (K3 × Nat)} {A : List Int} {at_ most : Nat} (h : FInv b m A at_) (hat : at_ + most ≤ b.length) (h3 : (startM b (at_ : Int)).isSome = true → 3 ≤ most) : ∀ (t : Nat) (p : Int) (l k : Nat),
   (p = -32769 ∨ (0 ≤ p ∧ p < (at_ : Int) ∧ startM b p = startM b (at_ : Int) ∧ (startM b (at_ : Int)).isSome = true)) → runOk b at_ most (l, k) → runOk b at_ most (longM b A at_ most t p l k)
 | 0, p, l, k, _, hr => hr
 | t + 1, p, l, k, hp, hr => by
   rw [longM]
   by_cases c : 32768 < (at_ : Int) - p ∨ l = most
   · rw [if_pos c]; exact hr
   · rw [if_neg c]
     rcases hp with hp | ⟨p0, p1, p2, p3⟩
     · omega
     · have hnext : A.getD p.toNat 0 = -32769 ∨ (0 ≤ A.getD p.toNat 0 ∧ A.getD p.toNat 0 < (at_ : Int) ∧ startM b (A.getD p.toNat 0) = startM b (at_ : Int) ∧ (startM b (at_ : Int)).isSome = true) := by
         have hc := h.chain p.toNat (by omega) (by rw [Int.toNat_of_nonneg p0, p2]; exact p3)
         rw [Int.toNat_of_nonneg p0] at hc
         rcases hc with hc | ⟨q0, q1, q2⟩
         · exact .inl hc
         · exact .inr ⟨q0, by omega, by rw [q2, p2], p3⟩
       split
       · rename_i hl
         refine longM_ok h hat h3 t _ _ _ hnext (.inr ⟨?_, alike_le, by omega, by omega, fun i hi => ?_⟩)
         · rcases Nat.lt_or_ge (alikeM b p.toNat at_ most) 3 with hlt | hge
           · exfalso
             have hn3 := h3 p3
             have e3 := start_eq3 p2 p3 p0 (Int.natCast_nonneg _)
             obtain ⟨n, hn⟩ : ∃ n, n = alikeM b p.toNat at_ most := ⟨_, rfl⟩
             have hge : 3 ≤ alikeM b p.toNat at_ most := by
               unfold alikeM
               have e : List.range most = List.range 3 ++ (List.range (most - 3)).map (3 + ·) := by
                 have := List.range_add (n := 3) (m := most - 3)
                 rwa [show 3 + (most - 3) = most by omega] at this
               rw [e, List.takeWhile_append_of_pos (by
                 intro i hi
                 simp only [beq_iff_eq]
                 have := e3 i (List.mem_range.1 hi)
                 simpa using this), List.length_append, List.length_range]
               omega
             omega
           · exact hge
         · rw [show at_ - (at_ - p.toNat) + i = p.toNat + i by omega]
           exact alike_get hi
       · exact longM_ok h hat h3 t _ _ _ hnext hr
set_option maxHeartbeats 1000000 in
set_option maxRecDepth 100000 in
theorem fd_longest_h [Tabs Tryz.prog] (nl : Bool) (b : List UInt8) (hb : b.length ≤ 20000) (t : Nat) (ht : t ≤ 20000) (m : List (K3 × Nat)) (A : List Int) (at_ : Nat) (hat : at_ < b.length) (hI : FInv b m A at_) (R : Nat × Nat)
   (hR : R = longM b A at_ (min 258 (b.length - at_)) t (lastM b m (at_ : Int)) 0 0) :
   HCon Tryz.prog n_deflate_finder_longest [.op 1000 0 0, .sc (.int .i64 (at_ : Int))] (fdI nl b t m A) (.tup [.sc (.int .i64 (R.1 : Int)), .sc (.int .i64 (R.2 : Int))]) (fdO nl b t m A) 100000 := by
 refine HCon.of' mix Tryz.func90 rfl Tryz.ntmps90 e_deflate_finder_longest r_deflate_finder_longest (by simp) (by simp [AV.gl, AV.gl.glL]) fd_gl ?_
 unfold s_deflate_finder_longest
 obtain ⟨most, hmost⟩ : ∃ x, x = min 258 (b.length - at_) := ⟨_, rfl⟩
 have hmin : (if (b.length : Int) - (at_ : Int) < 258 then (b.length : Int) - (at_ : Int) else 258) = (most : Int) := by
   split <;> omega
 have ll := fd_lastLike_h nl b hb t m A (at_ : Int) (by omega) (by omega)
 have hp0 := lastM_ok hI
 obtain ⟨p0, hp0e⟩ : ∃ x, x = lastM b m (at_ : Int) := ⟨_, rfl⟩
 rw [← hmost, ← hp0e] at hR
 rw [← hp0e] at ll hp0
 have hlen := hI.len
 obtain ⟨e, he⟩ : ∃ e, e = m.map enA := ⟨_, rfl⟩
 have hre : ∀ ρ, ren.renL ρ e = e := fun ρ => by rw [he]; exact renL_en
 simp only [fdI, fdO, ← he] at ll ⊢
 repeat (first | refine zR (ja4 @fdR.eq_1 iR @List.length_map.{0, 0} @hmin) ?_ | exact zU (ja4 @fdR.eq_1 iR @List.length_map.{0, 0} @hmin))
 refine goC_h [(1000, 0), (1001, 0), (1002, 0)] 2000 ll (by simp) (by simp) ?_ ?_ ?_
 iterate 2 (case _ => (first | exact yU (ja4 @fdR.eq_1 iR @hre @ren_tup) | refine yR (ja4 @fdR.eq_1 iR @hre @ren_tup) ?_))
 repeat (first | refine zR (ja4 @fdR.eq_1 iR @hre @ren_tup) ?_ | exact zU (ja4 @fdR.eq_1 iR @hre @ren_tup))
 refine SWp.loop (α := Nat × Int × Nat × Nat × Nat) (fun x => mk 63 x.2.2.2.2 [(0, .op 1000 0 0), (1, .sc (.int .i64 (at_ : Int))), (4, int x.2.2.1), (5, int x.2.2.2.1), (6, int most), (7, .sc (.int .i64 x.2.1)), (23, int t), (24, int x.1)] (fdO nl b t m A))
   (fun x => x.1 ≤ t ∧ R = longM b A at_ most (t - x.1) x.2.1 x.2.2.1 x.2.2.2.1 ∧ x.2.2.1 ≤ 258 ∧ (x.2.1 = -32769 ∨ (0 ≤ x.2.1 ∧ x.2.1 < (at_ : Int) ∧ startM b x.2.1 = startM b (at_ : Int) ∧ (startM b (at_ : Int)).isSome = true)) ∧ x.2.2.2.2 ≤ 6 + x.1) (fun x => t - x.1) (0, p0, 0, 0, 6) ⟨Nat.zero_le _, by simpa using hR, Nat.zero_le _, hp0, by simp⟩ (le_mk rfl ?_ ?_ ?_) ?_
 · exact Nat.le_refl _
 iterate 2 (case _ => (first | exact yU (ja2 @fdR.eq_1 he.symm) | refine yR (ja2 @fdR.eq_1 he.symm) ?_))
 rintro ⟨i, p, l, k, gc⟩ ⟨hi, hRi, hl, hp, hgc⟩ -
 simp only at hi hRi hl hp hgc
 by_cases ci : i < t
 · have di : decide ((i : Int) < (t : Int)) = true := decide_eq_true (by omega)
   obtain ⟨j, hj⟩ : ∃ j, t - i = j + 1 := ⟨t - i - 1, by omega⟩
   have hj2 : t - (i + 1) = j := by omega
   rw [hj, longM] at hRi
   by_cases c1 : 32768 < (at_ : Int) - p
   · have d1 := decide_eq_true c1
     rw [if_pos (.inl c1)] at hRi
     rw [hRi]
     repeat (first | refine zR (ja5 @di @d1 @fdR.eq_1 iR he.symm) ?_ | exact zU (ja5 @di @d1 @fdR.eq_1 iR he.symm))
     try omega
   have d1 := decide_eq_false c1
   by_cases c2 : l = most
   · have d2 : decide ((l : Int) = (most : Int)) = true := decide_eq_true (by omega)
     rw [if_pos (.inr c2)] at hRi
     rw [hRi]
     repeat (first | refine zR (ja6 @di @d1 @d2 @fdR.eq_1 iR he.symm) ?_ | exact zU (ja6 @di @d1 @d2 @fdR.eq_1 iR he.symm))
     try omega
   have d2 : decide ((l : Int) = (most : Int)) = false := decide_eq_false (by omega)
   rw [if_neg (by omega)] at hRi
   rcases hp with hp | ⟨hp0', hp1, hp2, hp3⟩
   · omega
   obtain ⟨q, rfl⟩ : ∃ q : Nat, p = (q : Int) := ⟨p.toNat, by omega⟩
   rw [Int.toNat_natCast] at hRi
   have al := fd_alike_h nl b hb t m A q at_ most (by omega) (by omega)
   have hale := alike_le (b := b) (p := q) (q := at_) (most := most)
   obtain ⟨n, hn⟩ : ∃ n, n = alikeM b q at_ most := ⟨_, rfl⟩
   rw [← hn] at al hRi hale
   have hrem : Int.tmod (q : Int) (A.length : Int) = (q : Int) := Int.tmod_eq_of_lt (by omega) (by omega)
   have hga : (A.map int).getD q .junk = .sc (.int .i64 (A.getD q 0)) := getD_zA (by omega)
   have hnext : A.getD q 0 = -32769 ∨ (0 ≤ A.getD q 0 ∧ A.getD q 0 < (at_ : Int) ∧ startM b (A.getD q 0) = startM b (at_ : Int) ∧ (startM b (at_ : Int)).isSome = true) := by
     rcases hI.chain q (by omega) (by rw [hp2]; exact hp3) with hc | ⟨q0, q1, q2⟩
     · exact .inl hc
     · exact .inr ⟨q0, by omega, by rw [q2, hp2], hp3⟩
   obtain ⟨nx, hnx⟩ : ∃ y, y = A.getD q 0 := ⟨_, rfl⟩
   rw [← hnx] at hga hnext hRi
   have hnxb : -32769 ≤ nx ∧ nx ≤ 20000 := by omega
   have hA0 : decide ((A.length : Int) = 0) = false := decide_eq_false (by omega)
   simp only [fdI, fdO, ← he] at al
   repeat (first | refine zR (ja6 @di @d1 @d2 @fdR.eq_1 iR he.symm) ?_ | exact zU (ja6 @di @d1 @d2 @fdR.eq_1 iR he.symm))
   refine goC_h [(1000, 0), (1001, 0), (1002, 0)] 2000 al (by simp) (by simp) ?_ ?_ ?_
   iterate 2 (case _ => (first | exact yU (ja5 @fdR.eq_1 iR @hre @ren_tup he.symm) | refine yR (ja5 @fdR.eq_1 iR @hre @ren_tup he.symm) ?_))
   by_cases c3 : l < n
   · have d3 : decide ((l : Int) < (n : Int)) = true := decide_eq_true (by omega)
     have hk : (at_ : Int) - (q : Int) = ((at_ - q : Nat) : Int) := by omega
     obtain ⟨kk, hkk⟩ : ∃ y, y = at_ - q := ⟨_, rfl⟩
     rw [← hkk] at hk hRi
     rw [if_pos c3] at hRi
     repeat (first | refine zR (ja8 @fdR.eq_1 iR @hre @ren_tup @d3 @hk @hrem (ja2 @hga @List.length_map.{0, 0})) ?_ | exact zU (ja8 @fdR.eq_1 iR @hre @ren_tup @d3 @hk @hrem (ja2 @hga @List.length_map.{0, 0})))
     refine At.of (i + 1, nx, n, kk, gc + 1) ⟨by simp only; omega, by simp only; rw [hj2]; exact hRi, by simp only; omega, hnext, by simp only; omega⟩ (by simp only; omega) rfl rfl (Nat.le_refl _) ?_ ?_
     iterate 2 (case _ => (first | exact yU (ja3 hnx.symm @fdR.eq_1 he.symm) | refine yR (ja3 hnx.symm @fdR.eq_1 he.symm) ?_))
   · have d3 : decide ((l : Int) < (n : Int)) = false := decide_eq_false (by omega)
     rw [if_neg c3] at hRi
     repeat (first | refine zR (ja8 @fdR.eq_1 iR @hre @ren_tup @d3 @hrem @hga @List.length_map.{0, 0}) ?_ | exact zU (ja8 @fdR.eq_1 iR @hre @ren_tup @d3 @hrem @hga @List.length_map.{0, 0}))
     refine At.of (i + 1, nx, l, k, gc + 1) ⟨by simp only; omega, by simp only; rw [hj2]; exact hRi, by simp only; omega, hnext, by simp only; omega⟩ (by simp only; omega) rfl rfl (Nat.le_refl _) ?_ ?_
     iterate 2 (case _ => (first | exact yU (ja3 hnx.symm @fdR.eq_1 he.symm) | refine yR (ja3 hnx.symm @fdR.eq_1 he.symm) ?_))
 · have di : decide ((i : Int) < (t : Int)) = false := decide_eq_false (by omega)
   rw [show t - i = 0 by omega, longM] at hRi
   rw [hRi]
   repeat (first | refine zR (ja4 @di @fdR.eq_1 iR he.symm) ?_ | exact zU (ja4 @di @fdR.eq_1 iR he.symm))
   try omega
def addA (b : List UInt8) (m : List (K3 × Nat)) (A : List Int) (p : Nat) : List Int := if (startM b (p : Int)).isSome then A.set p (lastM b m (p : Int)) else A
def addM (b : List UInt8) (m : List (K3 × Nat)) (p : Nat) : List (K3 × Nat) := match startM b (p : Int) with
 | some k => mpt k p m
 | none => m
theorem mem_mpt {k : K3} {p : Nat} {e : K3 × Nat} : ∀ {m : List (K3 × Nat)}, e ∈ mpt k p m → e = (k, p) ∨ e ∈ m
 | [], h => by simp only [mpt, List.mem_singleton] at h; exact .inl h
 | a :: m, h => by
   rw [mpt] at h
   split at h
   · rename_i c
     rcases List.mem_cons.1 h with h | h
     · left; rw [h, c]
     · exact .inr (List.mem_cons_of_mem _ h)
   · rcases List.mem_cons.1 h with h | h
     · right; rw [h]; exact List.mem_cons_self ..
     · exact (mem_mpt h).imp id (List.mem_cons_of_mem _)
theorem FInv.add {b : List UInt8} {m : List (K3 × Nat)} {A : List Int} {p : Nat} (h : FInv b m A p) (hp : p < b.length) : FInv b (addM b m p) (addA b m A p) (p + 1) := by
 refine ⟨?_, ?_, ?_⟩
 · unfold addA; split
   · rw [List.length_set]; exact h.len
   · exact h.len
 · intro e he
   unfold addM at he
   split at he
   · rename_i k hk
     rcases mem_mpt he with rfl | he
     · exact ⟨by simp only; omega, hk⟩
     · obtain ⟨h1, h2⟩ := h.map e he
       exact ⟨by omega, h2⟩
   · obtain ⟨h1, h2⟩ := h.map e he
     exact ⟨by omega, h2⟩
 · intro q hq hs
   by_cases c : q = p
   · subst c
     unfold addA
     rw [if_pos hs]
     have e : (A.set q (lastM b m (q : Int))).getD q 0 = lastM b m (q : Int) := by
       have : q < A.length := by rw [h.len]; exact hp
       simp [List.getD, this]
     rw [e]
     rcases lastM_ok h with h1 | ⟨h1, h2, h3, _⟩
     · exact .inl h1
     · exact .inr ⟨h1, h2, h3⟩
   · have e : (addA b m A p).getD q 0 = A.getD q 0 := by
       unfold addA
       split
       · simp [List.getD, List.getElem?_set_ne (Ne.symm c)]
       · rfl
     rw [e]
     exact h.chain q (by omega) hs
theorem FInv.start {b : List UInt8} : FInv b [] (List.replicate b.length 0) 0 := ⟨by simp, by simp, fun p hp => by omega⟩
set_option maxHeartbeats 1000000 in
set_option maxRecDepth 100000 in
theorem fd_add_h [Tabs Tryz.prog] (nl : Bool) (b : List UInt8) (hb : b.length ≤ 20000) (t : Nat) (m : List (K3 × Nat)) (A : List Int) (hA : A.length = b.length) (p : Nat) (hp : p < b.length) (hlast : -32769 ≤ lastM b m (p : Int) ∧ lastM b m (p : Int) ≤ 20000) :
   HCon Tryz.prog n_deflate_finder_add [.op 1000 0 0, .sc (.int .i64 (p : Int))] (fdI nl b t m A) (.tup []) (fdO nl b t (addM b m p) (addA b m A p)) 14 := by
 refine HCon.of' mix Tryz.func91 rfl Tryz.ntmps91 e_deflate_finder_add r_deflate_finder_add (by simp) (by simp [AV.gl, AV.gl.glL]) fd_gl ?_
 unfold s_deflate_finder_add
 have pso := fd_start_h nl b hb t m A ((p : Int) - 32768) (by omega) (by omega)
 have hso : startM b ((p : Int) - 32768) = none := if_pos (.inl (by omega))
 have hoo : AV.tup [kA ((startM b ((p : Int) - 32768)).getD (0, 0, 0)), boo (startM b ((p : Int) - 32768)).isSome] = .tup [.agg [.sc (.int .u8 0), .sc (.int .u8 0), .sc (.int .u8 0)], boo false] := by rw [hso]; rfl
 rw [hoo] at pso
 have psn := fd_start_h nl b hb t m A (p : Int) (by omega) (by omega)
 have ll := fd_lastLike_h nl b hb t m A (p : Int) (by omega) (by omega)
 obtain ⟨e, he⟩ : ∃ e, e = m.map enA := ⟨_, rfl⟩
 have hre : ∀ ρ, ren.renL ρ e = e := fun ρ => by rw [he]; exact renL_en
 cases hs : startM b (p : Int) with
 | none =>
   have ho : AV.tup [kA ((startM b (p : Int)).getD (0, 0, 0)), boo (startM b (p : Int)).isSome] = .tup [.agg [.sc (.int .u8 0), .sc (.int .u8 0), .sc (.int .u8 0)], boo false] := by rw [hs]; rfl
   rw [ho] at psn
   have eM : addM b m p = m := by rw [addM, hs]
   have eA : addA b m A p = A := by rw [addA, hs]; rfl
   rw [eM, eA]
   simp only [fdI, fdO, ← he] at pso psn ⊢
   repeat (first | refine zS ?_ | exact zT)
   refine goC_h [(1000, 0), (1001, 0), (1002, 0)] 2000 pso (by simp) (by simp) ?_ ?_ ?_
   iterate 2 (case _ => (first | exact yU (ja4 @fdR.eq_1 iR @hre @ren_tup) | refine yR (ja4 @fdR.eq_1 iR @hre @ren_tup) ?_))
   repeat (first | refine zR (ja4 @fdR.eq_1 iR @hre @ren_tup) ?_ | exact zU (ja4 @fdR.eq_1 iR @hre @ren_tup))
   refine goC_h [(1000, 0), (1001, 0), (1002, 0)] 3000 psn (by simp) (by simp) ?_ ?_ ?_
   iterate 2 (case _ => (first | exact yU (ja4 @fdR.eq_1 iR @hre @ren_tup) | refine yR (ja4 @fdR.eq_1 iR @hre @ren_tup) ?_))
   repeat (first | refine zR (ja4 @fdR.eq_1 iR @hre @ren_tup) ?_ | exact zU (ja4 @fdR.eq_1 iR @hre @ren_tup))
 | some k =>
   obtain ⟨x, y, z⟩ := k
   have ho : AV.tup [kA ((startM b (p : Int)).getD (0, 0, 0)), boo (startM b (p : Int)).isSome] = .tup [.agg [u8 x, u8 y, u8 z], boo true] := by rw [hs]; rfl
   rw [ho] at psn
   have eM : addM b m p = mpt (x, y, z) p m := by rw [addM, hs]
   obtain ⟨la, hla⟩ : ∃ la, la = lastM b m (p : Int) := ⟨_, rfl⟩
   rw [← hla] at ll hlast
   have eA : addA b m A p = A.set p la := by rw [addA, hs, hla]; rfl
   rw [eM, eA]
   have hput : mput (.agg [.sc (.int .u8 (x.toNat : Int)), .sc (.int .u8 (y.toNat : Int)), .sc (.int .u8 (z.toNat : Int))]) (.sc (.int .i64 (p : Int))) e = (mpt (x, y, z) p m).map enA := by rw [he]; exact mput_en (k := (x, y, z))
   have hk : likeA (.agg #[.int .u8 0, .int .u8 0, .int .u8 0]) (.agg [.sc (.int .u8 (x.toNat : Int)), .sc (.int .u8 (y.toNat : Int)), .sc (.int .u8 (z.toNat : Int))]) = True := like_kT (k := (x, y, z))
   have hen : entsOk (.agg #[.int .u8 0, .int .u8 0, .int .u8 0]) e = True := by rw [he]; exact ents_enT
   have hrem : Int.tmod (p : Int) (A.length : Int) = (p : Int) := Int.tmod_eq_of_lt (by omega) (by omega)
   have hset : (A.take p).map int ++ (.sc (.int .i64 la) :: (A.drop (p + 1)).map int) = (A.set p la).map int := splice_zA (by omega)
   have hsl : (A.set p la).length = A.length := List.length_set
   obtain ⟨e', he'⟩ : ∃ e', e' = (mpt (x, y, z) p m).map enA := ⟨_, rfl⟩
   rw [← he'] at hput
   simp only [fdI, fdO, ← he, ← he'] at pso psn ll ⊢
   repeat (first | refine zS ?_ | exact zT)
   refine goC_h [(1000, 0), (1001, 0), (1002, 0)] 2000 pso (by simp) (by simp) ?_ ?_ ?_
   iterate 2 (case _ => (first | exact yU (ja4 @fdR.eq_1 iR @hre @ren_tup) | refine yR (ja4 @fdR.eq_1 iR @hre @ren_tup) ?_))
   repeat (first | refine zR (ja4 @fdR.eq_1 iR @hre @ren_tup) ?_ | exact zU (ja4 @fdR.eq_1 iR @hre @ren_tup))
   refine goC_h [(1000, 0), (1001, 0), (1002, 0)] 3000 psn (by simp) (by simp) ?_ ?_ ?_
   iterate 2 (case _ => (first | exact yU (ja4 @fdR.eq_1 iR @hre @ren_tup) | refine yR (ja4 @fdR.eq_1 iR @hre @ren_tup) ?_))
   repeat (first | refine zR (ja6 @fdR.eq_1 iR @hre @ren_tup @List.length_map.{0, 0} @hrem) ?_ | exact zU (ja6 @fdR.eq_1 iR @hre @ren_tup @List.length_map.{0, 0} @hrem))
   refine goC_h [(1000, 0), (1001, 0), (1002, 0)] 4000 ll (by simp) (by simp) ?_ ?_ ?_
   iterate 2 (case _ => (first | exact yU (ja4 @fdR.eq_1 iR @hre @ren_tup) | refine yR (ja4 @fdR.eq_1 iR @hre @ren_tup) ?_))
   repeat (first | refine zR (ja8 @fdR.eq_1 iR @hre @ren_tup @List.length_map.{0, 0} @hrem @hset (ja4 @hen @hk @hput @hsl)) ?_ | exact zU (ja8 @fdR.eq_1 iR @hre @ren_tup @List.length_map.{0, 0} @hrem @hset (ja4 @hen @hk @hput @hsl)))
end Go.Proofs.YtbcncdpaigljeaaGreatDoor.Aw
namespace Go.Proofs.YtbcncdpaigljeaaGreatDoor.Aw
open Go
set_option linter.unusedSimpArgs false
set_option linter.unusedVariables false
def blen (v : Nat) : Nat := (List.range 17).countP fun k => decide (2 ^ k ≤ v)
set_option maxRecDepth 100000 in
theorem len8_at {i : Nat} (h : i < 256) : ([0, 1, 2, 2, 3, 3, 3, 3, 4, 4, 4, 4, 4, 4, 4, 4, 5, 5, 5, 5, 5, 5, 5, 5, 5, 5, 5, 5, 5, 5, 5, 5, 6, 6, 6, 6, 6, 6, 6, 6, 6, 6, 6, 6, 6, 6, 6, 6, 6, 6, 6, 6, 6, 6, 6, 6, 6, 6, 6, 6, 6, 6, 6, 6, 7, 7, 7, 7, 7, 7, 7, 7, 7, 7, 7, 7, 7, 7, 7, 7, 7, 7, 7, 7, 7, 7, 7, 7, 7, 7, 7, 7, 7, 7, 7, 7, 7, 7, 7, 7, 7, 7, 7, 7, 7, 7, 7, 7, 7, 7, 7, 7, 7, 7, 7, 7, 7, 7, 7, 7, 7, 7, 7, 7, 7, 7, 7, 7, 8, 8, 8, 8, 8, 8, 8, 8, 8, 8, 8, 8, 8, 8, 8, 8, 8, 8, 8, 8, 8, 8, 8, 8, 8, 8, 8, 8, 8, 8, 8, 8, 8, 8, 8, 8, 8, 8, 8, 8, 8, 8, 8, 8, 8, 8, 8, 8, 8, 8, 8, 8, 8, 8, 8, 8, 8, 8, 8, 8, 8, 8, 8, 8, 8, 8, 8, 8, 8, 8, 8, 8, 8, 8, 8, 8, 8, 8, 8, 8, 8, 8, 8, 8, 8, 8, 8, 8, 8, 8, 8, 8, 8, 8, 8, 8, 8, 8, 8, 8, 8, 8, 8, 8, 8, 8, 8, 8, 8, 8, 8, 8, 8, 8, 8, 8, 8, 8, 8, 8, 8, 8, 8, 8, 8, 8, 8, 8] : List UInt8).getD i 0 = UInt8.ofNat (blen i) :=
 (by decide +kernel : ∀ i, i < 256 → ([0, 1, 2, 2, 3, 3, 3, 3, 4, 4, 4, 4, 4, 4, 4, 4, 5, 5, 5, 5, 5, 5, 5, 5, 5, 5, 5, 5, 5, 5, 5, 5, 6, 6, 6, 6, 6, 6, 6, 6, 6, 6, 6, 6, 6, 6, 6, 6, 6, 6, 6, 6, 6, 6, 6, 6, 6, 6, 6, 6, 6, 6, 6, 6, 7, 7, 7, 7, 7, 7, 7, 7, 7, 7, 7, 7, 7, 7, 7, 7, 7, 7, 7, 7, 7, 7, 7, 7, 7, 7, 7, 7, 7, 7, 7, 7, 7, 7, 7, 7, 7, 7, 7, 7, 7, 7, 7, 7, 7, 7, 7, 7, 7, 7, 7, 7, 7, 7, 7, 7, 7, 7, 7, 7, 7, 7, 7, 7, 8, 8, 8, 8, 8, 8, 8, 8, 8, 8, 8, 8, 8, 8, 8, 8, 8, 8, 8, 8, 8, 8, 8, 8, 8, 8, 8, 8, 8, 8, 8, 8, 8, 8, 8, 8, 8, 8, 8, 8, 8, 8, 8, 8, 8, 8, 8, 8, 8, 8, 8, 8, 8, 8, 8, 8, 8, 8, 8, 8, 8, 8, 8, 8, 8, 8, 8, 8, 8, 8, 8, 8, 8, 8, 8, 8, 8, 8, 8, 8, 8, 8, 8, 8, 8, 8, 8, 8, 8, 8, 8, 8, 8, 8, 8, 8, 8, 8, 8, 8, 8, 8, 8, 8, 8, 8, 8, 8, 8, 8, 8, 8, 8, 8, 8, 8, 8, 8, 8, 8, 8, 8, 8, 8, 8, 8, 8, 8] : List UInt8).getD i 0 = UInt8.ofNat (blen i)) i h
theorem blen_le {v : Nat} : blen v ≤ 17 := Nat.le_trans List.countP_le_length (by simp)
theorem blen_small {v : Nat} (h : v < 256) : blen v ≤ 8 := (by decide +kernel : ∀ i, i < 256 → blen i ≤ 8) v h
theorem blen_shift {v : Nat} (h : 256 ≤ v) (h2 : v < 65536) : blen v = 8 + blen (v / 256) := by
 have e : List.range 17 = List.range 8 ++ (List.range 9).map (8 + ·) := by decide
 have e9 : List.range 17 = List.range 9 ++ (List.range 8).map (9 + ·) := by decide
 have h1 : blen v = 8 + ((List.range 9).map (8 + ·)).countP (fun k => decide (2 ^ k ≤ v)) := by
   unfold blen
   rw [e, List.countP_append]
   congr 1
   rw [List.countP_eq_length.2]
   · simp
   · intro k hk
     have hk := List.mem_range.1 hk
     have : 2 ^ k ≤ 2 ^ 8 := Nat.pow_le_pow_right (by omega) (by omega)
     simp only [decide_eq_true_eq]; omega
 have h3 : blen (v / 256) = (List.range 9).countP (fun k => decide (2 ^ k ≤ v / 256)) := by
   unfold blen
   rw [e9, List.countP_append]
   have : ((List.range 8).map (9 + ·)).countP (fun k => decide (2 ^ k ≤ v / 256)) = 0 := by
     rw [List.countP_eq_zero]
     intro k hk
     rw [List.mem_map] at hk
     obtain ⟨j, _, rfl⟩ := hk
     have : 2 ^ 9 ≤ 2 ^ (9 + j) := Nat.pow_le_pow_right (by omega) (by omega)
     simp only [decide_eq_true_eq]; omega
   omega
 rw [h1, h3, List.countP_map]
 congr 1
 refine List.countP_congr fun k hk => ?_
 simp only [Function.comp, decide_eq_true_eq]
 rw [Nat.pow_add, show (2 : Nat) ^ 8 = 256 from rfl, Nat.le_div_iff_mul_le (by omega), Nat.mul_comm]
set_option maxHeartbeats 1000000 in
set_option maxRecDepth 100000 in
theorem bits_Len64_c [Tabs Tryz.prog] (v : Nat) (hv : v < 65536) : Con Tryz.prog n_bits_Len64 [.sc (.int .u64 (v : Int))] (int (blen v : Int)) := by
 refine Con.of' mix Tryz.func152 rfl Tryz.ntmps152 e_bits_Len64 r_bits_Len64 (by simp) rfl rfl ?_
 unfold s_bits_Len64
 have d1 : decide ((4294967296 : Int) ≤ (v : Int)) = false := decide_eq_false (by omega)
 have d2 : decide ((65536 : Int) ≤ (v : Int)) = false := decide_eq_false (by omega)
 by_cases c : 256 ≤ v
 · have d3 : decide ((256 : Int) ≤ (v : Int)) = true := decide_eq_true (by omega)
   have hs := blen_shift c hv
   obtain ⟨w, hw⟩ : ∃ w, w = v / 256 := ⟨_, rfl⟩
   have hw2 : w < 256 := by omega
   have ht := len8_at hw2
   have hbl := blen_small hw2
   have hu : ((UInt8.ofNat (blen w)).toNat : Int) = (blen w : Int) := by rw [UInt8.toNat_ofNat']; omega
   rw [hs, ← hw]
   obtain ⟨y, hy⟩ : ∃ y, y = blen w := ⟨_, rfl⟩
   rw [← hy] at hbl hu ht ⊢
   have hwu : IntKind.u8.wrap (w : Int) = (w : Int) := wrap_u8_id (by omega) (by omega)
   have ef : ((v : Int).fdiv (2 ^ 8)) = (w : Int) := by rw [hw]; exact (Int.fdiv_eq_ediv_of_nonneg _ (by omega)).trans (by norm_cast)
   repeat (first | refine xR (ja7 @d1 @d2 @d3 hw.symm @hwu @ht @hu) ?_ | exact xU (ja7 @d1 @d2 @d3 hw.symm @hwu @ht @hu))
 · have d3 : decide ((256 : Int) ≤ (v : Int)) = false := decide_eq_false (by omega)
   have ht := len8_at (i := v) (by omega)
   have hbl := blen_small (v := v) (by omega)
   have hu : ((UInt8.ofNat (blen v)).toNat : Int) = (blen v : Int) := by rw [UInt8.toNat_ofNat']; omega
   obtain ⟨y, hy⟩ : ∃ y, y = blen v := ⟨_, rfl⟩
   rw [← hy] at hbl hu ht ⊢
   have hwu : IntKind.u8.wrap (v : Int) = (v : Int) := wrap_u8_id (by omega) (by omega)
   repeat (first | refine xR (ja6 @d1 @d2 @d3 @hwu @ht @hu) ?_ | exact xU (ja6 @d1 @d2 @d3 @hwu @ht @hu))
theorem bits_Len_c [Tabs Tryz.prog] (v : Nat) (hv : v < 65536) : Con Tryz.prog n_bits_Len [.sc (.int .u64 (v : Int))] (int (blen v : Int)) := by
 refine Con.of' mix Tryz.func146 rfl Tryz.ntmps146 e_bits_Len r_bits_Len (by simp) rfl rfl ?_
 unfold s_bits_Len
 repeat (first | refine xS ?_ | exact xT)
 refine goC_p _ (.inl ⟨rfl, bits_Len64_c v hv⟩) ?_
 repeat (first | refine xS ?_ | exact xT)
def symLow (v h : Nat) : Nat := blen v - 1 - h
def symN (v h : Nat) : Nat := symLow v h * 2 ^ h + v / 2 ^ symLow v h
theorem fdiv_two {v w : Nat} : ((v : Int).fdiv (2 ^ w)) = ((v / 2 ^ w : Nat) : Int) := by
 rw [Int.fdiv_eq_ediv_of_nonneg _ (Int.le_of_lt (Int.pow_pos (by omega)))]
 norm_cast
set_option maxRecDepth 100000 in
theorem symbolOf_c [Tabs Tryz.prog] (v : Nat) (hv : v < 65536) (h : Nat) (hh : h = 1 ∨ h = 2) : Con Tryz.prog n_deflate_symbolOf [.sc (.int .i64 (v : Int)), .sc (.int .i64 (h : Int))] (.agg [.sc (.int .i64 (symN v h : Int)), .sc (.int .i64 (v : Int)), .sc (.int .i64 (symLow v h : Int))]) := by
 refine Con.of' mix Tryz.func123 rfl Tryz.ntmps123 e_deflate_symbolOf r_deflate_symbolOf (by simp) rfl rfl ?_
 unfold s_deflate_symbolOf
 have wu : IntKind.u64.wrap (v : Int) = (v : Int) := wrap_u64_id3 (by omega) (by omega)
 have hb := blen_le (v := v)
 obtain ⟨l, hl⟩ : ∃ l, l = symLow v h := ⟨_, rfl⟩
 have hmx : (if (0 : Int) < (blen v : Int) - 1 - (h : Int) then (blen v : Int) - 1 - (h : Int) else 0) = (l : Int) := by
   rw [hl, symLow]
   split <;> omega
 have hll : l ≤ 17 := by rw [hl, symLow]; omega
 obtain ⟨q, hq⟩ : ∃ q, q = v / 2 ^ l := ⟨_, rfl⟩
 have hql : q ≤ v := by rw [hq]; exact Nat.div_le_self _ _
 have eq1 : ((v : Int).fdiv (2 ^ l)) = (q : Int) := by rw [hq]; exact fdiv_two
 have hN : symN v h = l * 2 ^ h + q := by rw [symN, ← hl, ← hq]
 rw [hN, ← hl]
 clear eq1
 repeat (first | refine xR @wu ?_ | exact xU @wu)
 refine goC_p _ (.inl ⟨rfl, bits_Len_c v hv⟩) ?_
 rcases hh with rfl | rfl
 · have hmx : (if (0 : Int) < (blen v : Int) - 1 - 1 then (blen v : Int) - 1 - 1 else 0) = (l : Int) := hmx
   repeat (first | refine xR (ja2 @hmx hq.symm) ?_ | exact xU (ja2 @hmx hq.symm))
 · have hmx : (if (0 : Int) < (blen v : Int) - 1 - 2 then (blen v : Int) - 1 - 2 else 0) = (l : Int) := hmx
   repeat (first | refine xR (ja2 @hmx hq.symm) ?_ | exact xU (ja2 @hmx hq.symm))
def pcA (p : Nat × Nat) : AV := .agg [.sc (.int .u16 (p.1 : Int)), .sc (.int .u16 (p.2 : Int))]
def pcOk (p : Nat × Nat) : Prop := (p.2 = 0 ∧ p.1 < 256) ∨ (0 < p.2 ∧ p.2 ≤ 32768 ∧ 3 ≤ p.1 ∧ p.1 ≤ 258)
def syA (s : Nat × Nat × Nat) : AV := .agg [.sc (.int .i64 (s.1 : Int)), .sc (.int .i64 (s.2.1 : Int)), .sc (.int .i64 (s.2.2 : Int))]
def litS (p : Nat × Nat) : Nat × Nat × Nat := if p.2 = 0 then (p.1, 0, 0) else if p.1 = 258 then (285, 0, 0) else (symN (p.1 - 3) 2 + 257, p.1 - 3, symLow (p.1 - 3) 2)
def dstS (p : Nat × Nat) : Nat × Nat × Nat := (symN (p.2 - 1) 1, p.2 - 1, symLow (p.2 - 1) 1)
theorem free_pcs {l : List (Nat × Nat)} : AV.free.freeL (l.map pcA) = true := freeL_iff.2 fun x hx => by
 obtain ⟨p, _, rfl⟩ := List.mem_map.1 hx; rfl
theorem isRun_c [Tabs Tryz.prog] (p : Nat × Nat) : Con Tryz.prog n_deflate_piece_isRun [pcA p] (boo (decide (0 < p.2))) := by
 refine Con.of' mix Tryz.func84 rfl Tryz.ntmps84 e_deflate_piece_isRun r_deflate_piece_isRun (by simp) rfl rfl ?_
 unfold s_deflate_piece_isRun
 have e : decide ((0 : Int) < (p.2 : Int)) = decide (0 < p.2) := by simp only [decide_eq_decide]; omega
 repeat (first | refine xR (ja2 @pcA.eq_1 @e) ?_ | exact xU (ja2 @pcA.eq_1 @e))
set_option maxRecDepth 100000 in
theorem literal_c [Tabs Tryz.prog] (p : Nat × Nat) (hp : pcOk p) : Con Tryz.prog n_deflate_piece_literal [pcA p] (syA (litS p)) := by
 refine Con.of' mix Tryz.func83 rfl Tryz.ntmps83 e_deflate_piece_literal r_deflate_piece_literal (by simp) rfl rfl ?_
 unfold s_deflate_piece_literal
 have ir := isRun_c p
 obtain ⟨v, b⟩ := p
 simp only [pcOk] at hp
 by_cases c : b = 0
 · subst c
   have wi : IntKind.i64.wrap (v : Int) = (v : Int) := wrap_i64_id (by omega) (by omega)
   rw [show decide (0 < (v, 0).2) = false from rfl] at ir
   have hr : syA (litS (v, 0)) = .agg [.sc (.int .i64 (v : Int)), .sc (.int .i64 0), .sc (.int .i64 0)] := rfl
   rw [hr]
   repeat (first | refine xR @pcA.eq_1 ?_ | exact xU @pcA.eq_1)
   refine goC_p _ (.inl ⟨rfl, ir⟩) ?_
   repeat (first | refine xR (ja2 @pcA.eq_1 @wi) ?_ | exact xU (ja2 @pcA.eq_1 @wi))
 · rw [show decide (0 < (v, b).2) = true from decide_eq_true (by simp only; omega)] at ir
   by_cases c2 : v = 258
   · subst c2
     have hr : syA (litS (258, b)) = .agg [.sc (.int .i64 285), .sc (.int .i64 0), .sc (.int .i64 0)] := by simp only [litS, if_neg c, if_true]; rfl
     have d2 : decide (((258 : Nat) : Int) = 258) = true := rfl
     rw [hr]
     repeat (first | refine xR @pcA.eq_1 ?_ | exact xU @pcA.eq_1)
     refine goC_p _ (.inl ⟨rfl, ir⟩) ?_
     repeat (first | refine xR (ja2 @pcA.eq_1 @d2) ?_ | exact xU (ja2 @pcA.eq_1 @d2))
   · have d2 : decide ((v : Int) = 258) = false := decide_eq_false (by omega)
     have hv3 : 3 ≤ v ∧ v < 258 := by omega
     obtain ⟨w, hw⟩ : ∃ w, w = v - 3 := ⟨_, rfl⟩
     have ew : (v : Int) - 3 = (w : Int) := by omega
     have hr : syA (litS (v, b)) = .agg [.sc (.int .i64 ((symN w 2 + 257 : Nat) : Int)), .sc (.int .i64 (w : Int)), .sc (.int .i64 (symLow w 2 : Int))] := by simp only [litS, if_neg c, if_neg c2, ← hw]; rfl
     have wi : IntKind.i64.wrap (v : Int) = (v : Int) := wrap_i64_id (by omega) (by omega)
     have sy := symbolOf_c w (by omega) 2 (.inr rfl)
     have hsl : symLow w 2 ≤ 17 := by have := blen_le (v := w); rw [symLow]; omega
     have hsn : symN w 2 ≤ 1000 := by
       have : w / 2 ^ symLow w 2 ≤ w := Nat.div_le_self _ _
       rw [symN]; omega
     obtain ⟨N, hN⟩ : ∃ N, N = symN w 2 := ⟨_, rfl⟩
     obtain ⟨l, hl⟩ : ∃ l, l = symLow w 2 := ⟨_, rfl⟩
     rw [← hN, ← hl] at sy hr
     rw [← hN] at hsn
     rw [hr]
     repeat (first | refine xR @pcA.eq_1 ?_ | exact xU @pcA.eq_1)
     refine goC_p _ (.inl ⟨rfl, ir⟩) ?_
     repeat (first | refine xR (ja4 @pcA.eq_1 @d2 @wi @ew) ?_ | exact xU (ja4 @pcA.eq_1 @d2 @wi @ew))
     refine goC_p _ (.inl ⟨rfl, sy⟩) ?_
     repeat (first | refine xS ?_ | exact xT)
set_option maxRecDepth 100000 in
theorem distance_c [Tabs Tryz.prog] (p : Nat × Nat) (h1 : 0 < p.2) (h2 : p.2 ≤ 32768) : Con Tryz.prog n_deflate_piece_distance [pcA p] (syA (dstS p)) := by
 refine Con.of' mix Tryz.func85 rfl Tryz.ntmps85 e_deflate_piece_distance r_deflate_piece_distance (by simp) rfl rfl ?_
 unfold s_deflate_piece_distance
 obtain ⟨v, b⟩ := p
 simp only at h1 h2
 obtain ⟨w, hw⟩ : ∃ w, w = b - 1 := ⟨_, rfl⟩
 have ew : (b : Int) - 1 = (w : Int) := by omega
 have wi : IntKind.i64.wrap (b : Int) = (b : Int) := wrap_i64_id (by omega) (by omega)
 have sy := symbolOf_c w (by omega) 1 (.inl rfl)
 have hr : syA (dstS (v, b)) = .agg [.sc (.int .i64 (symN w 1 : Int)), .sc (.int .i64 (w : Int)), .sc (.int .i64 (symLow w 1 : Int))] := by simp only [dstS, ← hw]; rfl
 rw [hr]
 repeat (first | refine xR (ja3 @pcA.eq_1 @wi @ew) ?_ | exact xU (ja3 @pcA.eq_1 @wi @ew))
 refine goC_p _ (.inl ⟨rfl, sy⟩) ?_
 repeat (first | refine xS ?_ | exact xT)
end Go.Proofs.YtbcncdpaigljeaaGreatDoor.Aw
namespace Go.Proofs.YtbcncdpaigljeaaGreatDoor.Aw
open Go
set_option linter.unusedSimpArgs false
set_option linter.unusedVariables false
set_option linter.defProp false
def hinL (k : Nat) : List AO → List (Nat × Nat × AO)
 | [] => []
 | a :: l => (k, 0, a) :: hinL (k + 1) l
theorem hinL_nil {k : Nat} : hinL k [] = [] := rfl
theorem hinL_cons {k : Nat} {a : AO} {l : List AO} : hinL k (a :: l) = (k, 0, a) :: hinL (k + 1) l := rfl
theorem lookH_hinL : ∀ (l : List AO) (k id : Nat), lookH (hinL k l) id = if k ≤ id then (l[id - k]?).map (fun o => (0, o)) else none
 | [], k, id => by simp [hinL, lookH]
 | a :: l, k, id => by
   rw [hinL, lookH]
   by_cases c : id = k
   · rw [if_pos c, if_pos (by omega), c]; simp
   · rw [if_neg c, lookH_hinL l (k + 1) id]
     by_cases d : k ≤ id
     · rw [if_pos d, if_pos (by omega), show id - k = (id - (k + 1)) + 1 by omega]; simp
     · rw [if_neg d, if_neg (by omega)]
theorem hin0_many {a b c d : AO} {l : List AO} : hin0 (a :: b :: c :: d :: l) = lookH (hinL 1000 (a :: b :: c :: d :: l)) := by
 funext id
 rw [lookH_hinL, hin0]
theorem rho_h3 {p q r s : Nat × Nat} {hs : List (Nat × Nat)} {D c : Nat} : rho (p :: q :: r :: s :: hs) D c 1003 0 = s := by simp [rho, handed]
theorem rho_h3' {p q r s : Nat × Nat} {hs : List (Nat × Nat)} {D c g : Nat} : rho (p :: q :: r :: s :: hs) D c 1003 (g + 1) = (s.1, c + (g + 1)) := by simp [rho, handed]
theorem rho_h4 {p q r s t : Nat × Nat} {hs : List (Nat × Nat)} {D c : Nat} : rho (p :: q :: r :: s :: t :: hs) D c 1004 0 = t := by simp [rho, handed]
theorem rho_h4' {p q r s t : Nat × Nat} {hs : List (Nat × Nat)} {D c g : Nat} : rho (p :: q :: r :: s :: t :: hs) D c 1004 (g + 1) = (t.1, c + (g + 1)) := by simp [rho, handed]
theorem rho_h5 {p q r s t u : Nat × Nat} {hs : List (Nat × Nat)} {D c : Nat} : rho (p :: q :: r :: s :: t :: u :: hs) D c 1005 0 = u := by simp [rho, handed]
theorem rho_h5' {p q r s t u : Nat × Nat} {hs : List (Nat × Nat)} {D c g : Nat} : rho (p :: q :: r :: s :: t :: u :: hs) D c 1005 (g + 1) = (u.1, c + (g + 1)) := by simp [rho, handed]
theorem rho_b4 {p q r s : Nat × Nat} {D c id g : Nat} (h : 1004 ≤ id) : rho [p, q, r, s] D c id g = (D + id, c + g) := rho_new (by simp [handed]; omega)
theorem rho_b5 {p q r s t : Nat × Nat} {D c id g : Nat} (h : 1005 ≤ id) : rho [p, q, r, s, t] D c id g = (D + id, c + g) := rho_new (by simp [handed]; omega)
theorem rho_b6 {p q r s t u : Nat × Nat} {D c id g : Nat} (h : 1006 ≤ id) : rho [p, q, r, s, t, u] D c id g = (D + id, c + g) := rho_new (by simp [handed]; omega)
def hR := And.intro (And.intro @hin0_many (And.intro @hinL_nil @hinL_cons)) <| And.intro (And.intro (And.intro @rho_h3 @rho_h3') (And.intro @rho_h4 @rho_h4')) <| And.intro (And.intro @rho_h5 @rho_h5') (And.intro @rho_b4 (And.intro @rho_b5 @rho_b6))
end Go.Proofs.YtbcncdpaigljeaaGreatDoor.Aw
namespace Go.Proofs.YtbcncdpaigljeaaGreatDoor.Aw
open Go
set_option linter.unusedSimpArgs false
set_option linter.unusedVariables false
def triesM (n : Nat) : Nat := if n ≤ 16000 then n else 256
set_option maxRecDepth 100000 in
theorem newFinder_h [Tabs Tryz.prog] (nl : Bool) (b : List UInt8) (hb : b.length ≤ 20000) : HCon Tryz.prog n_deflate_newFinder [.sl nl none (b.map u8)] [] (.op 11 3 0)
   [(11, 3, .row false [.sl nl none (b.map u8), .mp 5 1, .own 9 2 none 0 b.length, .sc (.int .i64 (triesM b.length : Int))]), (5, 1, .row false [.tup []]), (9, 2, .row false ((List.replicate b.length (0 : Int)).map int))] 4 := by
 refine HCon.of' mix Tryz.func89 rfl Tryz.ntmps89 e_deflate_newFinder r_deflate_newFinder (by simp) (by simp only [AV.gl.glL, AV.gl, and_true]; exact glL_of_free _ _ free_u8) (by simp) ?_
 unfold s_deflate_newFinder
 obtain ⟨n, hn⟩ : ∃ n, n = b.length := ⟨_, rfl⟩
 have hmin : (if (32768 : Int) < (n : Int) then (32768 : Int) else (n : Int)) = (n : Int) := if_neg (by omega)
 have hz : (List.replicate n [AV.sc (.int .i64 0)]).flatten = (List.replicate n (0 : Int)).map int := by
   rw [List.map_replicate, List.flatten_replicate_singleton]
   rfl
 rw [← hn]
 by_cases c : n ≤ 16000
 · have d : decide ((n : Int) ≤ 16000) = true := decide_eq_true (by omega)
   have ht : triesM n = n := if_pos c
   rw [ht]
   repeat (first | refine zR (ja5 @List.length_map.{0, 0} hn.symm @hmin @d @hz) ?_ | exact zU (ja5 @List.length_map.{0, 0} hn.symm @hmin @d @hz))
 · have d : decide ((n : Int) ≤ 16000) = false := decide_eq_false (by omega)
   have ht : triesM n = 256 := if_neg c
   rw [ht]
   repeat (first | refine zR (ja5 @List.length_map.{0, 0} hn.symm @hmin @d @hz) ?_ | exact zU (ja5 @List.length_map.{0, 0} hn.symm @hmin @d @hz))
def pcC (l : List (Nat × Nat)) : List AV := l.flatMap fun p => [.sc (.int .u16 (p.1 : Int)), .sc (.int .u16 (p.2 : Int))]
theorem pcC_append {a b : List (Nat × Nat)} : pcC (a ++ b) = pcC a ++ pcC b := by simp [pcC]
theorem length_pcC : ∀ {l : List (Nat × Nat)}, (pcC l).length = l.length * 2
 | [] => rfl
 | p :: l => by rw [show pcC (p :: l) = [.sc (.int .u16 (p.1 : Int)), .sc (.int .u16 (p.2 : Int))] ++ pcC l from rfl, List.length_append, length_pcC]; simp; omega
theorem free_pcC {l : List (Nat × Nat)} : AV.free.freeL (pcC l) = true := freeL_iff.2 fun x hx => by
 simp only [pcC, List.mem_flatMap, List.mem_cons, List.not_mem_nil, or_false] at hx
 obtain ⟨p, _, rfl | rfl⟩ := hx <;> rfl
theorem renL_pcC {ρ : Nat → Nat → Nat × Nat} {l : List (Nat × Nat)} : ren.renL ρ (pcC l) = pcC l := renL_free ρ _ free_pcC
def litP (l : List UInt8) : List (Nat × Nat) := l.map fun c => (c.toNat, 0)
set_option maxHeartbeats 1000000 in
set_option maxRecDepth 100000 in
theorem pieces1_h [Tabs Tryz.prog] (nl : Bool) (b : List UInt8) (hb : b.length ≤ 20000) (s e : Nat) (hs : s ≤ e) (he : e ≤ b.length) (P : List (Nat × Nat)) (N : Nat) (hN : N = P.length) (hP : N ≤ 20000) :
   HCon Tryz.prog n_deflate_piecesOf_1 [.sc (.int .i64 (e : Int)), .op 1000 0 0, .op 1001 0 0, .op 1002 0 0]
     [.row false [.sl nl none (b.map u8)], .row false [.sc (.int .i64 (s : Int))], .row false [.own 1003 0 (some 2) 0 N], .row (nl0 N) (pcC P)] (.tup [])
     [(1000, 0, .row false [.sl nl none (b.map u8)]), (1001, 0, .row false [.sc (.int .i64 (s : Int))]), (1002, 0, .row false [.own 1003 30000 (some 2) 0 (N + (e - s))]), (1003, 30000, .row (nl0 (N + (e - s))) (pcC (P ++ litP ((b.take e).drop s))))] 30001 := by
 refine HCon.of' mix Tryz.func49 rfl Tryz.ntmps49 e_deflate_piecesOf_1 r_deflate_piecesOf_1 (by simp) (by simp [AV.gl, AV.gl.glL]) ?_ ?_
 · intro n cells h
   simp only [List.mem_cons, AO.row.injEq, List.not_mem_nil, or_false] at h
   obtain ⟨-, rfl⟩ | ⟨-, rfl⟩ | ⟨-, rfl⟩ | ⟨-, rfl⟩ := h
   · simp only [AV.gl.glL, AV.gl, and_true]; exact glL_of_free _ _ free_u8
   · simp [AV.gl.glL, AV.gl]
   · simp [AV.gl.glL, AV.gl]
   · exact glL_of_free _ _ free_pcC
 unfold s_deflate_piecesOf_1
 obtain ⟨seg, hseg⟩ : ∃ seg, seg = (b.take e).drop s := ⟨_, rfl⟩
 have hsl : seg.length = e - s := by rw [hseg, List.length_drop, List.length_take]; omega
 obtain ⟨M, hM⟩ : ∃ M, M = e - s := ⟨_, rfl⟩
 rw [← hM] at hsl
 have hcut : ((b.map u8).take e).drop s = seg.map u8 := by rw [hseg, List.map_drop, List.map_take]
 rw [← hseg, ← hM]
 repeat (first | refine zR (ja4 hR @List.length_map.{0, 0} hseg.symm @hsl) ?_ | exact zU (ja4 hR @List.length_map.{0, 0} hseg.symm @hsl))
 refine SWp.loop (α := Nat × Nat × Nat) (fun x => mk 23 x.2.2 [(3, .op 1002 0 0), (10, .sl nl none (seg.map u8)), (11, int M), (12, int x.1)] [(1000, 0, .row false [.sl nl none (b.map u8)]), (1001, 0, .row false [.sc (.int .i64 (s : Int))]), (1002, 0, .row false [.own 1003 x.2.1 (some 2) 0 (N + x.1)]), (1003, x.2.1, .row (nl0 (N + x.1)) (pcC (P ++ litP (seg.take x.1))))])
   (fun x => x.1 ≤ M ∧ x.2.2 ≤ 1 + x.1) (fun x => M - x.1) (0, 0, 1) ⟨Nat.zero_le _, by simp⟩ (le_mk rfl ?_ ?_ ?_) ?_
 · exact Nat.le_refl _
 iterate 2 (case _ => (first | exact yU (ja2 hR @litP.eq_1) | refine yR (ja2 hR @litP.eq_1) ?_))
 rintro ⟨k, g, gc⟩ ⟨hk, hgc⟩ -
 simp only at hk hgc
 obtain ⟨Q, hQ⟩ : ∃ Q, Q = P ++ litP (seg.take k) := ⟨_, rfl⟩
 have hQl : Q.length = N + k := by rw [hQ, List.length_append, litP, List.length_map, List.length_take]; omega
 simp only [← hQ]
 by_cases ck : k < M
 · have dk : decide ((k : Int) < (M : Int)) = true := decide_eq_true (by omega)
   have hg : (seg.map u8).getD k .junk = u8 (seg.getD k 0) := getD_u8 (by omega)
   obtain ⟨c, hc⟩ : ∃ c, c = seg.getD k 0 := ⟨_, rfl⟩
   rw [← hc] at hg
   have hwr : IntKind.u16.wrap (c.toNat : Int) = (c.toNat : Int) := by
     have := c.toNat_lt
     simp only [IntKind.wrap, IntKind.bits, IntKind.signed]
     simp
     omega
   have hst : seg.take (k + 1) = seg.take k ++ [c] := by rw [snocD (d := 0) (by omega), hc]
   have hnx : P ++ litP (seg.take (k + 1)) = Q ++ [(c.toNat, 0)] := by rw [hst, hQ]; simp [litP]
   have hpc : pcC Q ++ [AV.sc (.int .u16 (c.toNat : Int)), AV.sc (.int .u16 0)] = pcC (Q ++ [(c.toNat, 0)]) := by rw [pcC_append]; rfl
   have hpl : (pcC Q).length = (N + k) * 2 := by rw [length_pcC, hQl]
   have hcl := c.toNat_lt
   have hfl : List.flatMap (fun x => (cellsA x).getD []) [AV.agg [AV.sc (Value.int IntKind.u16 (c.toNat : Int)), AV.sc (Value.int IntKind.u16 0)]] = [AV.sc (Value.int IntKind.u16 (c.toNat : Int)), AV.sc (Value.int IntKind.u16 0)] := rfl
   have hnl : nl0 (N + (k + 1)) = false := nl0_pos (by omega)
   repeat (first | refine zR (ja5 @dk @List.length_map.{0, 0} @hsl @hg @hwr) ?_ | exact zU (ja5 @dk @List.length_map.{0, 0} @hsl @hg @hwr))
   refine ⟨⟨_, rfl, rfl⟩, ⟨fun w hw => ⟨_, List.mem_singleton.1 hw⟩, hpl.symm, by omega, by omega⟩, ?_⟩
   repeat (first | refine zR (ja2 @hfl @hpc) ?_ | exact zU (ja2 @hfl @hpc))
   refine At.of (k + 1, gc, gc + 1) ⟨by simp only; omega, by simp only; omega⟩ (by simp only; omega) rfl rfl (Nat.le_refl _) ?_ ?_
   iterate 2 (case _ => (first | exact yU (ja3 @hnx @hnl @Nat.add_assoc) | refine yR (ja3 @hnx @hnl @Nat.add_assoc) ?_))
 · have dk : decide ((k : Int) < (M : Int)) = false := decide_eq_false (by omega)
   obtain rfl : k = M := by omega
   rw [List.take_of_length_le (by omega)] at hQ
   rw [← hQ]
   iterate 4 (first | refine zR @dk ?_ | exact zU @dk)
   refine SWp.le (le_mk (N := 23) (gc := 30000) (l := []) (h := [(1000, 0, .row false [.sl nl none (b.map u8)]), (1001, 0, .row false [.sc (.int .i64 (s : Int))]), (1002, 0, .row false [.own 1003 g (some 2) 0 (N + k)]), (1003, g, .row (nl0 (N + k)) (pcC Q))]) rfl ?_ ?_ ?_) ?_
   · (first | exact yT | refine yS ?_)
     omega
   iterate 2 (case _ => (first | exact yT | refine yS ?_))
   refine SWp.renew 1003 g (o := .row (nl0 (N + k)) (pcC Q)) (by (first | exact yT | refine yS ?_)) ?_
   refine SWp.le (le_mk (N := 23) (gc := 30001) (l := []) (h := [(1000, 0, .row false [.sl nl none (b.map u8)]), (1001, 0, .row false [.sc (.int .i64 (s : Int))]), (1002, 0, .row false [.own 1003 30000 (some 2) 0 (N + k)]), (1003, 30000, .row (nl0 (N + k)) (pcC Q))]) rfl ?_ ?_ ?_) ?_
   iterate 3 (case _ => (first | exact yU (ja4 @rgn_eq @rgH_at @renL_pcC iR) | refine yR (ja4 @rgn_eq @rgH_at @renL_pcC iR) ?_))
   repeat (first | refine zR (ja3 iR hR @renL_pcC) ?_ | exact zU (ja3 iR hR @renL_pcC))
end Go.Proofs.YtbcncdpaigljeaaGreatDoor.Aw
namespace Go.Proofs.YtbcncdpaigljeaaGreatDoor.Aw
open Go
set_option linter.unusedSimpArgs false
set_option linter.unusedVariables false
abbrev p2I (nl : Bool) (b : List UInt8) (s : Nat) (P : List (Nat × Nat)) : List AO := [.row false [.clo n_deflate_piecesOf_1 [.op 1003 0 0, .op 1002 0 0, .op 1001 0 0]], .row false [.own 1004 0 (some 2) 0 P.length], .row false [.sc (.int .i64 (s : Int))], .row false [.sl nl none (b.map u8)], .row (nl0 P.length) (pcC P)]
abbrev p2O (nl : Bool) (b : List UInt8) (s : Nat) (P : List (Nat × Nat)) (m : Nat) : List (Nat × Nat × AO) := [(1000, 0, .row false [.clo n_deflate_piecesOf_1 [.op 1003 0 0, .op 1002 0 0, .op 1001 0 0]]), (1001, 0, .row false [.own 1004 m (some 2) 0 P.length]), (1002, 0, .row false [.sc (.int .i64 (s : Int))]), (1003, 0, .row false [.sl nl none (b.map u8)]), (1004, m, .row (nl0 P.length) (pcC P))]
def runP (b : List UInt8) (P : List (Nat × Nat)) (s f l k : Nat) : List (Nat × Nat) := P ++ litP ((b.take f).drop s) ++ [(l, k)]
set_option maxHeartbeats 1000000 in
set_option maxRecDepth 100000 in
theorem pieces2_h [Tabs Tryz.prog] (nl : Bool) (b : List UInt8) (hb : b.length ≤ 20000) (s f l k : Nat) (hs : s ≤ f) (hf : f ≤ b.length) (P : List (Nat × Nat)) (hP : P.length ≤ s) (hl : l ≤ 258) (hk : k ≤ 32768) :
   HCon Tryz.prog n_deflate_piecesOf_2 [.sc (.int .i64 (f : Int)), .sc (.int .i64 (l : Int)), .sc (.int .i64 (k : Int)), .op 1000 0 0, .op 1001 0 0, .op 1002 0 0]
     (p2I nl b s P) (.tup []) (p2O nl b (f + l) (runP b P s f l k) 30002) 30003 := by
 refine HCon.of' mix Tryz.func51 rfl Tryz.ntmps51 e_deflate_piecesOf_2 r_deflate_piecesOf_2 (by simp) (by simp [AV.gl, AV.gl.glL]) ?_ ?_
 · intro n cells h
   simp only [List.mem_cons, AO.row.injEq, List.not_mem_nil, or_false] at h
   obtain ⟨-, rfl⟩ | ⟨-, rfl⟩ | ⟨-, rfl⟩ | ⟨-, rfl⟩ | ⟨-, rfl⟩ := h
   · simp [AV.gl.glL, AV.gl]
   · simp [AV.gl.glL, AV.gl]
   · simp [AV.gl.glL, AV.gl]
   · simp only [AV.gl.glL, AV.gl, and_true]; exact glL_of_free _ _ free_u8
   · exact glL_of_free _ _ free_pcC
 unfold s_deflate_piecesOf_2
 obtain ⟨N, hN⟩ : ∃ N, N = P.length := ⟨_, rfl⟩
 have p1 := pieces1_h nl b hb s f hs hf P N hN (by omega)
 obtain ⟨Q, hQ⟩ : ∃ Q, Q = P ++ litP ((b.take f).drop s) := ⟨_, rfl⟩
 have hQl : Q.length = N + (f - s) := by rw [hQ, List.length_append, litP, List.length_map, List.length_drop, List.length_take]; omega
 have hR' : runP b P s f l k = Q ++ [(l, k)] := by rw [runP, hQ]
 have hRl : (Q ++ [(l, k)]).length = N + (f - s) + 1 := by rw [List.length_append, hQl]; rfl
 have hw1 : IntKind.u16.wrap (l : Int) = (l : Int) := by
   simp only [IntKind.wrap, IntKind.bits, IntKind.signed]
   simp
   omega
 have hw2 : IntKind.u16.wrap (k : Int) = (k : Int) := by
   simp only [IntKind.wrap, IntKind.bits, IntKind.signed]
   simp
   omega
 obtain ⟨M, hM⟩ : ∃ M, M = N + (f - s) := ⟨_, rfl⟩
 have hM2 : M ≤ 20000 := by omega
 rw [← hM] at hQl hRl p1
 rw [← hQ] at p1
 have hpl : (pcC Q).length = M * 2 := by rw [length_pcC, hQl]
 have hpc : pcC Q ++ [AV.sc (.int .u16 (l : Int)), AV.sc (.int .u16 (k : Int))] = pcC (Q ++ [(l, k)]) := by rw [pcC_append]; rfl
 have hfl : List.flatMap (fun x => (cellsA x).getD []) [AV.agg [AV.sc (Value.int IntKind.u16 (l : Int)), AV.sc (Value.int IntKind.u16 (k : Int))]] = [AV.sc (Value.int IntKind.u16 (l : Int)), AV.sc (Value.int IntKind.u16 (k : Int))] := rfl
 have hnl : nl0 (M + 1) = false := nl0_pos (by omega)
 rw [hR']
 simp only [p2I, p2O, hRl, ← hN]
 repeat (first | refine zR hR ?_ | exact zU hR)
 refine goV_clo rfl ?_
 refine goC_h [(1003, 0), (1002, 0), (1001, 0), (1004, 0)] 2000 p1 (by simp) (by simp) ?_ ?_ ?_
 iterate 2 (case _ => (first | exact yU (ja3 hR @ren_tup @renL_pcC) | refine yR (ja3 hR @ren_tup @renL_pcC) ?_))
 repeat (first | refine zR (ja5 hR @ren_tup @renL_pcC @hw1 @hw2) ?_ | exact zU (ja5 hR @ren_tup @renL_pcC @hw1 @hw2))
 refine ⟨⟨_, rfl, rfl⟩, ⟨fun w hw => ⟨_, List.mem_singleton.1 hw⟩, hpl.symm, by omega, by omega⟩, ?_⟩
 repeat (first | refine zR (ja6 hR @hfl @hpc @hnl @renL_pcC iR) ?_ | exact zU (ja6 hR @hfl @hpc @hnl @renL_pcC iR))
 try omega
end Go.Proofs.YtbcncdpaigljeaaGreatDoor.Aw
namespace Go.Proofs.YtbcncdpaigljeaaGreatDoor.Aw
open Go
set_option linter.unusedSimpArgs false
set_option linter.unusedVariables false
def addN (b : List UInt8) : Nat → Nat → List (K3 × Nat) × List Int → List (K3 × Nat) × List Int
 | 0, _, x => x
 | j + 1, p, x => addN b j (p + 1) (addM b x.1 p, addA b x.1 x.2 p)
theorem addN_inv {b : List UInt8} : ∀ {j p : Nat} {x : List (K3 × Nat) × List Int}, FInv b x.1 x.2 p → p + j ≤ b.length → FInv b (addN b j p x).1 (addN b j p x).2 (p + j)
 | 0, _, _, h, _ => h
 | j + 1, p, x, h, hp => by
   rw [addN, show p + (j + 1) = (p + 1) + j by omega]
   exact addN_inv (h.add (by omega)) (by omega)
def runM (b : List UInt8) (m : List (K3 × Nat)) (A : List Int) (p : Nat) : Nat × Nat := longM b A p (min 258 (b.length - p)) (triesM b.length) (lastM b m (p : Int)) 0 0
def eachM (b : List UInt8) : Nat → Nat → List (K3 × Nat) × List Int → List (Nat × Nat) → Nat → List (Nat × Nat) × Nat
 | 0, _, _, P, s => (P, s)
 | n + 1, p, x, P, s => if b.length ≤ p then (P, s) else
   if 0 < (runM b x.1 x.2 p).1 then eachM b n (p + (runM b x.1 x.2 p).1) (addN b (runM b x.1 x.2 p).1 p x) (runP b P s p (runM b x.1 x.2 p).1 (runM b x.1 x.2 p).2) (p + (runM b x.1 x.2 p).1)
   else eachM b n (p + 1) (addN b 1 p x) P s
theorem runM_ok {b : List UInt8} {m : List (K3 × Nat)} {A : List Int} {p : Nat} (h : FInv b m A p) (hp : p < b.length) : runOk b p (min 258 (b.length - p)) (runM b m A p) := by
 refine longM_ok h (by omega) (fun hs => ?_) _ _ _ _ (lastM_ok h) (.inl rfl)
 unfold startM at hs
 split at hs
 · simp at hs
 · omega
theorem length_runP {b : List UInt8} {P : List (Nat × Nat)} {s f l k : Nat} (hs : s ≤ f) (hf : f ≤ b.length) : (runP b P s f l k).length = P.length + (f - s) + 1 := by
 rw [runP, List.length_append, List.length_append, litP, List.length_map, List.length_drop, List.length_take, List.length_singleton]; omega
def KE : Nat := 8999999999
theorem KE_eq : KE = 8999999999 := rfl
theorem triesM_le {n : Nat} (h : n ≤ 20000) : triesM n ≤ 20000 := by unfold triesM; split <;> omega
set_option maxHeartbeats 2000000 in
set_option maxRecDepth 100000 in
theorem eachRun_h [Tabs Tryz.prog] (nl : Bool) (b : List UInt8) (hb : b.length ≤ 20000) (R : List (Nat × Nat) × Nat) (hR0 : R = eachM b b.length 0 ([], List.replicate b.length 0) [] 0) :
   HCon Tryz.prog n_deflate_eachRun [.sl nl none (b.map u8), .clo n_deflate_piecesOf_2 [.op 1000 0 0, .op 1001 0 0, .op 1002 0 0]] (p2I nl b 0 []) (.tup []) (p2O nl b R.2 R.1 (KE + 1)) (KE + 2) := by
 refine HCon.of' mix Tryz.func50 rfl Tryz.ntmps50 e_deflate_eachRun r_deflate_eachRun (by simp) ?_ ?_ ?_
 · simp only [AV.gl.glL, AV.gl, and_true]
   exact ⟨glL_of_free _ _ free_u8, by simp⟩
 · intro n cells h
   simp only [List.mem_cons, AO.row.injEq, List.not_mem_nil, or_false] at h
   obtain ⟨-, rfl⟩ | ⟨-, rfl⟩ | ⟨-, rfl⟩ | ⟨-, rfl⟩ | ⟨-, rfl⟩ := h
   · simp [AV.gl.glL, AV.gl]
   · simp [AV.gl.glL, AV.gl]
   · simp [AV.gl.glL, AV.gl]
   · simp only [AV.gl.glL, AV.gl, and_true]; exact glL_of_free _ _ free_u8
   · exact glL_of_free _ _ free_pcC
 unfold s_deflate_eachRun
 have nf := newFinder_h nl b hb
 repeat (first | refine zR hR ?_ | exact zU hR)
 refine goC_h [] 2000 nf (by simp) (by simp) ?_ ?_ ?_
 iterate 2 (case _ => (first | exact yU hR | refine yR hR ?_))
 repeat (first | refine zR (ja3 hR @ren_tup iR) ?_ | exact zU (ja3 hR @ren_tup iR))
 obtain ⟨t, ht⟩ : ∃ t, t = triesM b.length := ⟨_, rfl⟩
 have htl : t ≤ 20000 := by rw [ht]; exact triesM_le hb
 refine SWp.loop (α := Nat × (List (K3 × Nat) × List Int) × List (Nat × Nat) × Nat × Nat × Nat) (fun x => mk 37 x.2.2.2.2.2 [(0, .sl nl none (b.map u8)), (1, .clo n_deflate_piecesOf_2 [.op 1000 0 0, .op 1001 0 0, .op 1002 0 0]), (4, .op 2011 4 0), (5, int x.1)] (p2O nl b x.2.2.2.1 x.2.2.1 x.2.2.2.2.1 ++ [(2011, 4, .row false [.sl nl none (b.map u8), .mp 2005 2, .own 2009 3 none 0 x.2.1.2.length, .sc (.int .i64 (t : Int))]), (2005, 2, .row false [.tup (x.2.1.1.map enA)]), (2009, 3, .row false (x.2.1.2.map int))]))
   (fun x => x.1 ≤ b.length ∧ FInv b x.2.1.1 x.2.1.2 x.1 ∧ x.2.2.1.length ≤ x.2.2.2.1 ∧ x.2.2.2.1 ≤ x.1 ∧ (∃ n, b.length ≤ x.1 + n ∧ R = eachM b n x.1 x.2.1 x.2.2.1 x.2.2.2.1) ∧ x.2.2.2.2.2 ≤ 10 + 200000 * x.1) (fun x => b.length - x.1) (0, ([], List.replicate b.length 0), [], 0, 0, 5) ⟨Nat.zero_le _, FInv.start, Nat.zero_le _, Nat.zero_le _, ⟨b.length, by simp, hR0⟩, by simp⟩ (le_mk rfl ?_ ?_ ?_) ?_
 iterate 3 (case _ => (first | exact yU (ja3 hR @List.length_replicate.{0} ht.symm) | refine yR (ja3 hR @List.length_replicate.{0} ht.symm) ?_))
 rintro ⟨p, ⟨m, A⟩, P, s, g, gc⟩ ⟨hp, hF, hPs, hsp, ⟨n0, hn0, hRe⟩, hgc⟩ -
 simp only at hp hF hPs hsp hn0 hRe hgc
 obtain ⟨N, hN⟩ : ∃ N, N = P.length := ⟨_, rfl⟩
 have hAl := hF.len
 obtain ⟨e, he⟩ : ∃ e, e = m.map enA := ⟨_, rfl⟩
 have hre : ∀ ρ, ren.renL ρ e = e := fun ρ => by rw [he]; exact renL_en
 by_cases cp : p < b.length
 · have dp : decide ((p : Int) < (b.length : Int)) = true := decide_eq_true (by omega)
   obtain ⟨r, hr⟩ : ∃ r, r = runM b m A p := ⟨_, rfl⟩
   have hro : runOk b p (min 258 (b.length - p)) r := by rw [hr]; exact runM_ok hF cp
   have lo := fd_longest_h nl b hb t htl m A p cp hF r (by rw [hr, runM, ht])
   obtain ⟨n, hn⟩ : ∃ n, n0 = n + 1 := ⟨n0 - 1, by omega⟩
   rw [hn, eachM, if_neg (by omega)] at hRe
   simp only [← hr] at hRe
   simp only [p2O, List.cons_append, List.nil_append, fdI, fdO, fdR, ← he, ← hN] at lo ⊢
   repeat (first | refine zR (ja2 @dp @List.length_map.{0, 0}) ?_ | exact zU (ja2 @dp @List.length_map.{0, 0}))
   refine goC_h [(2011, 4), (2005, 2), (2009, 3)] 3000 lo (by simp) (by simp) ?_ ?_ ?_
   iterate 2 (case _ => (first | exact yU (ja3 iR @hre @ren_tup) | refine yR (ja3 iR @hre @ren_tup) ?_))
   iterate 2 (first | refine zR (ja3 iR @hre @ren_tup) ?_ | exact zU (ja3 iR @hre @ren_tup))
   obtain ⟨l, k⟩ := r
   simp only at hRe hro ⊢
   obtain ⟨J, hJ⟩ : ∃ J, J = max l 1 := ⟨_, rfl⟩
   have hmx : (if (l : Int) < 1 then (1 : Int) else (l : Int)) = (J : Int) := by split <;> omega
   have hlk : l = 0 ∨ (3 ≤ l ∧ p + l ≤ b.length ∧ l ≤ 258 ∧ 1 ≤ k ∧ k ≤ p) := by
     rcases hro with h | ⟨h1, h2, h3, h4, _⟩
     · exact .inl h
     · simp only at h1 h2 h3 h4; exact .inr (by omega)
   have hJb : p + J ≤ b.length := by omega
   obtain ⟨P2, hP2⟩ : ∃ P2, P2 = if 0 < l then runP b P s p l k else P := ⟨_, rfl⟩
   obtain ⟨s2, hs2⟩ : ∃ s2, s2 = if 0 < l then p + l else s := ⟨_, rfl⟩
   have hRe2 : R = eachM b n (p + J) (addN b J p (m, A)) P2 s2 := by
     by_cases c : 0 < l
     · rw [if_pos c] at hRe hP2 hs2
       rw [hRe, hP2, hs2, show J = l by omega]
     · rw [if_neg c] at hRe hP2 hs2
       rw [hRe, hP2, hs2, show J = 1 by omega]
   have hPs2 : P2.length ≤ s2 := by
     by_cases c : 0 < l
     · rw [if_pos c] at hP2 hs2
       rw [hP2, hs2, length_runP hsp hp]; omega
     · rw [if_neg c] at hP2 hs2
       rw [hP2, hs2]; exact hPs
   have hss2 : s2 ≤ p + J := by rw [hs2]; split <;> omega
   obtain ⟨g2, hg2⟩ : ∃ g2, g2 = if 0 < l then gc + 100000 + 30002 else g := ⟨_, rfl⟩
   refine SWp.toT (F := mk 37 (gc + 130003) [(0, .sl nl none (b.map u8)), (1, .clo n_deflate_piecesOf_2 [.op 1000 0 0, .op 1001 0 0, .op 1002 0 0]), (4, .op 2011 4 0), (5, int p), (6, int l)] (p2O nl b s2 P2 g2 ++ [(2011, 4, .row false [.sl nl none (b.map u8), .mp 2005 2, .own 2009 3 none 0 A.length, .sc (.int .i64 (t : Int))]), (2005, 2, .row false [.tup e]), (2009, 3, .row false (A.map int))])) ?_ ?_
   · by_cases c : 0 < l
     · have dl : decide ((0 : Int) < (l : Int)) = true := decide_eq_true (by omega)
       rw [if_pos c] at hP2 hs2
       rw [if_pos c] at hg2
       rw [hg2]
       have p2 := pieces2_h nl b hb s p l k hsp hp P hPs (by omega) (by omega)
       rw [← hP2, ← hs2] at p2
       simp only [p2I, p2O, ← hN] at p2 ⊢
       repeat (first | refine zR @dl ?_ | exact zU @dl)
       refine goV_clo rfl ?_
       refine goC_h [(1000, 0), (1001, 0), (1002, 0), (1003, 0), (1004, g)] 3000 p2 (by simp) (by simp) ?_ ?_ ?_
       iterate 2 (case _ => (first | exact yU (ja3 hR @ren_tup @renL_pcC) | refine yR (ja3 hR @ren_tup @renL_pcC) ?_))
       repeat (first | refine zR (ja3 hR @ren_tup @renL_pcC) ?_ | exact zU (ja3 hR @ren_tup @renL_pcC))
       refine le_mk rfl ?_ ?_ ?_
       · show gc + 100000 + 30003 ≤ gc + 130003
         omega
       iterate 2 (case _ => (first | exact yT | refine yS ?_))
     · have dl : decide ((0 : Int) < (l : Int)) = false := decide_eq_false (by omega)
       rw [if_neg c] at hP2 hs2
       rw [if_neg c] at hg2
       rw [hP2, hs2, hg2]
       simp only [p2O, ← hN]
       repeat (first | refine zR @dl ?_ | exact zU @dl)
       refine SWp.skip (le_mk rfl ?_ ?_ ?_)
       · show gc + 100000 ≤ gc + 130003
         omega
       iterate 2 (case _ => (first | exact yT | refine yS ?_))
   · repeat (first | refine zR @hmx ?_ | exact zU @hmx)
     refine SWp.loop (α := Nat × Nat × (List (K3 × Nat) × List Int) × Nat) (fun x => mk 37 x.2.2.2 [(0, .sl nl none (b.map u8)), (1, .clo n_deflate_piecesOf_2 [.op 1000 0 0, .op 1001 0 0, .op 1002 0 0]), (4, .op 2011 4 0), (5, int x.2.1), (28, int J), (29, int x.1)] (p2O nl b s2 P2 g2 ++ [(2011, 4, .row false [.sl nl none (b.map u8), .mp 2005 2, .own 2009 3 none 0 x.2.2.1.2.length, .sc (.int .i64 (t : Int))]), (2005, 2, .row false [.tup (x.2.2.1.1.map enA)]), (2009, 3, .row false (x.2.2.1.2.map int))]))
       (fun x => x.1 ≤ J ∧ x.2.1 = p + x.1 ∧ FInv b x.2.2.1.1 x.2.2.1.2 x.2.1 ∧ addN b J p (m, A) = addN b (J - x.1) x.2.1 x.2.2.1 ∧ x.2.2.2 ≤ 200000 * p + 130020 + 20 * x.1) (fun x => J - x.1) (0, p, (m, A), gc + 130003) ⟨Nat.zero_le _, rfl, hF, rfl, by simp only; omega⟩ (le_mk rfl ?_ ?_ ?_) ?_
     · exact Nat.le_refl _
     iterate 2 (case _ => (first | exact yU he.symm | refine yR he.symm ?_))
     rintro ⟨j, q, ⟨m2, A2⟩, gd⟩ ⟨hj, hq, hF2, haN, hgd⟩ -
     simp only at hj hq hF2 haN hgd
     by_cases cj : j < J
     · have dj : decide ((j : Int) < (J : Int)) = true := decide_eq_true (by omega)
       have hql : q < b.length := by omega
       have hll : -32769 ≤ lastM b m2 (q : Int) ∧ lastM b m2 (q : Int) ≤ 20000 := by
         rcases lastM_ok hF2 with h | ⟨h1, h2, _⟩ <;> omega
       have ad := fd_add_h nl b hb t m2 A2 hF2.len q hql hll
       obtain ⟨i, hi⟩ : ∃ i, J - j = i + 1 := ⟨J - j - 1, by omega⟩
       rw [hi, addN] at haN
       simp only at haN
       have hF3 := hF2.add hql
       obtain ⟨m3, hm3⟩ : ∃ m3, m3 = addM b m2 q := ⟨_, rfl⟩
       obtain ⟨A3, hA3⟩ : ∃ A3, A3 = addA b m2 A2 q := ⟨_, rfl⟩
       rw [← hm3, ← hA3] at hF3 haN ad
       simp only [fdI, fdO, fdR] at ad
       repeat (first | refine zR @dj ?_ | exact zU @dj)
       refine goC_h [(2011, 4), (2005, 2), (2009, 3)] 3000 ad (by simp) (by simp) ?_ ?_ ?_
       iterate 2 (case _ => (first | exact yU (ja3 iR @renL_en @ren_tup) | refine yR (ja3 iR @renL_en @ren_tup) ?_))
       repeat (first | refine zR (ja3 iR @renL_en @ren_tup) ?_ | exact zU (ja3 iR @renL_en @ren_tup))
       refine At.of (j + 1, q + 1, (m3, A3), gd + 14) ⟨by simp only; omega, by simp only; omega, hF3, by simp only; rw [show J - (j + 1) = i by omega]; exact haN, by simp only; omega⟩ (by simp only; omega) rfl rfl (Nat.le_refl _) ?_ ?_
       iterate 2 (case _ => (first | exact yT | refine yS ?_))
     · have dj : decide ((j : Int) < (J : Int)) = false := decide_eq_false (by omega)
       obtain rfl : j = J := by omega
       rw [Nat.sub_self, addN] at haN
       rw [haN] at hRe2
       repeat (first | refine zR @dj ?_ | exact zU @dj)
       refine At.of (q, (m2, A2), P2, s2, g2, gd) ⟨by simp only; omega, hF2, hPs2, by simp only; omega, ⟨n, by simp only; omega, by rw [hq]; exact hRe2⟩, by simp only; omega⟩ (by simp only; omega) rfl rfl (Nat.le_refl _) ?_ ?_
       iterate 2 (case _ => (first | exact yT | refine yS ?_))
 · have dp : decide ((p : Int) < (b.length : Int)) = false := decide_eq_false (by omega)
   obtain rfl : p = b.length := by omega
   have hRs : eachM b n0 b.length (m, A) P s = (P, s) := by
     cases n0 with
     | zero => rfl
     | succ n => rw [eachM, if_pos (Nat.le_refl _)]
   rw [hRs] at hRe
   subst hRe
   simp only [p2O, List.cons_append, List.nil_append, ← hN]
   iterate 4 (first | refine zR (ja2 @dp @List.length_map.{0, 0}) ?_ | exact zU (ja2 @dp @List.length_map.{0, 0}))
   refine SWp.le (le_mk (N := 37) (gc := KE + 1) (l := []) (h := [(1000, 0, .row false [.clo n_deflate_piecesOf_1 [.op 1003 0 0, .op 1002 0 0, .op 1001 0 0]]), (1001, 0, .row false [.own 1004 g (some 2) 0 N]), (1002, 0, .row false [.sc (.int .i64 (s : Int))]), (1003, 0, .row false [.sl nl none (b.map u8)]), (1004, g, .row (nl0 N) (pcC P))]) rfl ?_ ?_ ?_) ?_
   · have := KE_eq
     (first | exact yT | refine yS ?_)
     omega
   iterate 2 (case _ => (first | exact yT | refine yS ?_))
   refine SWp.renew 1004 g (o := .row (nl0 N) (pcC P)) (by (first | exact yT | refine yS ?_)) ?_
   refine SWp.le (le_mk (N := 37) (gc := KE + 2) (l := []) (h := [(1000, 0, .row false [.clo n_deflate_piecesOf_1 [.op 1003 0 0, .op 1002 0 0, .op 1001 0 0]]), (1001, 0, .row false [.own 1004 (KE + 1) (some 2) 0 N]), (1002, 0, .row false [.sc (.int .i64 (s : Int))]), (1003, 0, .row false [.sl nl none (b.map u8)]), (1004, KE + 1, .row (nl0 N) (pcC P))]) rfl ?_ ?_ ?_) ?_
   iterate 3 (case _ => (first | exact yU (ja6 @rgn_eq @rgH_at @renL_pcC @renL_u8 iR @ren_tup) | refine yR (ja6 @rgn_eq @rgH_at @renL_pcC @renL_u8 iR @ren_tup) ?_))
   repeat (first | refine zR (ja3 iR hR @renL_pcC) ?_ | exact zU (ja3 iR hR @renL_pcC))
end Go.Proofs.YtbcncdpaigljeaaGreatDoor.Aw
namespace Go.Proofs.YtbcncdpaigljeaaGreatDoor.Aw
open Go
set_option linter.unusedSimpArgs false
set_option linter.unusedVariables false
theorem chunks_pcC {l : List (Nat × Nat)} : chunks (some 2) l.length (pcC l) = l.map pcA := by
 have h := chunks_flat (es := some 2) (l.map pcA) (fun x hx => by
   obtain ⟨p, _, rfl⟩ := List.mem_map.1 hx
   exact ⟨_, rfl, rfl⟩)
 rw [List.length_map, List.flatMap_map] at h
 exact h
theorem pcC_nil : pcC [] = [] := rfl
theorem nl00 : nl0 0 = true := rfl
def pcsE (b : List UInt8) : List (Nat × Nat) × Nat := eachM b b.length 0 ([], List.replicate b.length 0) [] 0
def pcsM (b : List UInt8) : List (Nat × Nat) := (pcsE b).1 ++ litP (b.drop (pcsE b).2)
theorem eachM_ind {b : List UInt8} (I : Nat → List (Nat × Nat) → Nat → Prop) (hI : ∀ p P s l k, I p P s → s ≤ p → p < b.length → runOk b p (min 258 (b.length - p)) (l, k) → 0 < l → I (p + l) (runP b P s p l k) (p + l)) (hJ : ∀ p P s, I p P s → I (p + 1) P s) :
   ∀ (n p : Nat) (x : List (K3 × Nat) × List Int) (P : List (Nat × Nat)) (s : Nat), FInv b x.1 x.2 p → p ≤ b.length → s ≤ p → b.length ≤ p + n → I p P s → I b.length (eachM b n p x P s).1 (eachM b n p x P s).2 ∧ (eachM b n p x P s).2 ≤ b.length
 | 0, p, x, P, s, hF, hp, hs, hn, h => by
   obtain rfl : p = b.length := by omega
   exact ⟨h, hs⟩
 | n + 1, p, x, P, s, hF, hp, hs, hn, h => by
   rw [eachM]
   by_cases c : b.length ≤ p
   · rw [if_pos c]
     obtain rfl : p = b.length := by omega
     exact ⟨h, hs⟩
   · rw [if_neg c]
     have ho := runM_ok hF (show p < b.length by omega)
     by_cases d : 0 < (runM b x.1 x.2 p).1
     · rw [if_pos d]
       have hl : p + (runM b x.1 x.2 p).1 ≤ b.length := by
         rcases ho with h | ⟨_, h2, _⟩
         · omega
         · have : min 258 (b.length - p) ≤ b.length - p := Nat.min_le_right _ _
           omega
       exact eachM_ind I hI hJ n _ _ _ _ (addN_inv hF hl) hl (Nat.le_refl _) (by omega) (hI _ _ _ _ _ h hs (by omega) ho d)
     · rw [if_neg d]
       exact eachM_ind I hI hJ n _ _ _ _ (addN_inv hF (by omega)) (by omega) (by omega) (by omega) (hJ _ _ _ h)
theorem pcsE_ind {b : List UInt8} (I : Nat → List (Nat × Nat) → Nat → Prop) (hI : ∀ p P s l k, I p P s → s ≤ p → p < b.length → runOk b p (min 258 (b.length - p)) (l, k) → 0 < l → I (p + l) (runP b P s p l k) (p + l)) (hJ : ∀ p P s, I p P s → I (p + 1) P s) (h0 : I 0 [] 0) : I b.length (pcsE b).1 (pcsE b).2 ∧ (pcsE b).2 ≤ b.length :=
 eachM_ind I hI hJ b.length 0 ([], List.replicate b.length 0) [] 0 FInv.start (Nat.zero_le _) (Nat.le_refl _) (by omega) h0
theorem litP_ok {l : List UInt8} : ∀ q ∈ litP l, pcOk q := fun q hq => by
 obtain ⟨c, _, rfl⟩ := List.mem_map.1 hq
 exact .inl ⟨rfl, by have := c.toNat_lt; omega⟩
theorem pcsE_facts {b : List UInt8} (hb : b.length ≤ 20000) : ((∀ q ∈ (pcsE b).1, pcOk q) ∧ (pcsE b).1.length ≤ (pcsE b).2) ∧ (pcsE b).2 ≤ b.length := by
 have h := pcsE_ind (b := b) (fun p P s => (∀ q ∈ P, pcOk q) ∧ P.length ≤ s) (fun p P s l k h hs hp ho hl => ⟨fun q hq => ?_, ?_⟩) (fun p P s h => h) ⟨by simp, by simp⟩
 · exact h
 · rw [runP] at hq
   rcases List.mem_append.1 hq with hq | hq
   · rcases List.mem_append.1 hq with hq | hq
     · exact h.1 q hq
     · exact litP_ok q hq
   · rw [List.mem_singleton] at hq
     subst hq
     rcases ho with ho | ⟨h1, h2, h3, h4, _⟩
     · simp only at ho; omega
     · simp only at h1 h2 h3 h4
       exact .inr ⟨by simp only; omega, by simp only; omega, by simp only; omega, by simp only; omega⟩
 · have := h.2
   rw [length_runP hs (by omega)]; omega
theorem pcsM_ok {b : List UInt8} (hb : b.length ≤ 20000) : ∀ q ∈ pcsM b, pcOk q := fun q hq => by
 rcases List.mem_append.1 hq with hq | hq
 · exact (pcsE_facts hb).1.1 q hq
 · exact litP_ok q hq
theorem pcsM_len {b : List UInt8} (hb : b.length ≤ 20000) : (pcsM b).length ≤ 20000 := by
 have h := pcsE_facts hb
 rw [pcsM, List.length_append, litP, List.length_map, List.length_drop]; omega
set_option maxHeartbeats 1000000 in
set_option maxRecDepth 100000 in
theorem piecesOf_c [Tabs Tryz.prog] (nl : Bool) (b : List UInt8) (hb : b.length ≤ 20000) : Con Tryz.prog n_deflate_piecesOf [.sl nl none (b.map u8)] (.sl (nl0 (pcsM b).length) (some 2) ((pcsM b).map pcA)) := by
 refine Con.of' mix Tryz.func22 rfl Tryz.ntmps22 e_deflate_piecesOf r_deflate_piecesOf (by simp) (by simp only [AV.free, AV.free.freeL, free_u8, Bool.and_self]) (by simp only [AV.free]; exact free_pcs) ?_
 unfold s_deflate_piecesOf
 obtain ⟨R, hR0⟩ : ∃ R, R = pcsE b := ⟨_, rfl⟩
 have er := eachRun_h nl b hb R hR0
 have hf := pcsE_facts hb
 rw [← hR0] at hf
 obtain ⟨⟨hf1, hf2⟩, hf3⟩ := hf
 obtain ⟨Q, s⟩ := R
 simp only at hf1 hf2 hf3 er
 obtain ⟨N, hN⟩ : ∃ N, N = Q.length := ⟨_, rfl⟩
 have p1 := pieces1_h nl b hb s b.length hf3 (Nat.le_refl _) Q N hN (by omega)
 rw [List.take_length] at p1
 have hM : pcsM b = Q ++ litP (b.drop s) := by rw [pcsM, ← hR0]
 rw [← hM] at p1
 have hMl : (pcsM b).length = N + (b.length - s) := by rw [hM, List.length_append, litP, List.length_map, List.length_drop, hN]
 obtain ⟨Z, hZ⟩ : ∃ Z, Z = pcsM b := ⟨_, rfl⟩
 obtain ⟨M, hMd⟩ : ∃ M, M = Z.length := ⟨_, rfl⟩
 have hMe : N + (b.length - s) = M := by rw [hMd, hZ, hMl]
 rw [hMe, ← hZ] at p1
 have hcn : chunks (some 2) M (pcC Z) = Z.map pcA := by rw [hMd]; exact chunks_pcC
 have hpl : (pcC Z).length = M * 2 := by rw [length_pcC, hMd]
 rw [← hZ, ← hMd]
 simp only [p2I, p2O, List.length_nil, ← hN] at er
 iterate 4 (first | refine zS ?_ | exact zT)
 refine SWp.adoptC 3 1 0 100 (some 2) (nl := false) (cells := [.sc (.slice none 0 0)]) (by (first | exact yT | refine yS ?_)) rfl (by decide) ?_
 repeat (first | refine zR @List.set_cons_zero.{0} ?_ | exact zU @List.set_cons_zero.{0})
 refine goC_h [(5, 4), (3, 1), (4, 3), (1, 0), (100, 2)] 2000 er (by simp) (by simp) ?_ ?_ ?_
 iterate 2 (case _ => (first | exact yU (ja5 hR @ren_tup @renL_pcC @pcC_nil @nl00) | refine yR (ja5 hR @ren_tup @renL_pcC @pcC_nil @nl00) ?_))
 iterate 1 (first | refine zR (ja3 hR @ren_tup @renL_pcC) ?_ | exact zU (ja3 hR @ren_tup @renL_pcC))
 repeat (first | refine zR (ja4 hR @ren_tup @renL_pcC @List.length_map.{0, 0}) ?_ | exact zU (ja4 hR @ren_tup @renL_pcC @List.length_map.{0, 0}))
 refine goV_clo rfl ?_
 refine goC_h [(1, 0), (4, 3), (3, 1), (100, 5 + (KE + 1))] 3000 p1 (by simp) (by simp) ?_ ?_ ?_
 iterate 2 (case _ => (first | exact yU (ja3 hR @ren_tup @renL_pcC) | refine yR (ja3 hR @ren_tup @renL_pcC) ?_))
 repeat (first | refine zR (ja5 hR @ren_tup @renL_pcC @hcn @hpl) ?_ | exact zU (ja5 hR @ren_tup @renL_pcC @hcn @hpl))
end Go.Proofs.YtbcncdpaigljeaaGreatDoor.Aw
namespace Go.Proofs.YtbcncdpaigljeaaGreatDoor.Aw
open Go
set_option linter.unusedSimpArgs false
set_option linter.unusedVariables false
def wrR (g n i : Nat) : List AV := [.own 1001 g none 0 n, .sc (.int .i64 (i : Int))]
theorem wr_gl {n i : Nat} {nl : Bool} {b : List UInt8} : ∀ m cells, AO.row m cells ∈ [AO.row false (wrR 0 n i), .row nl (b.map u8)] → AV.gl.glL 1 cells := by
 intro m cells h
 simp only [List.mem_cons, AO.row.injEq, List.not_mem_nil, or_false] at h
 obtain ⟨-, rfl⟩ | ⟨-, rfl⟩ := h
 · simp only [wrR, AV.gl.glL, AV.gl, and_true]; omega
 · exact glL_of_free _ _ free_u8
theorem huff_NewWriter_h [Tabs Tryz.prog] : HCon Tryz.prog n_huff_NewWriter [] [] (.op 2 1 0) [(2, 1, .row false [.own 100 2 none 0 0, int 0]), (100, 2, .row true [])] 3 := by
 refine HCon.of' mix Tryz.func19 rfl Tryz.ntmps19 e_huff_NewWriter r_huff_NewWriter (by simp) (by simp [AV.gl.glL]) (by simp) ?_
 unfold s_huff_NewWriter
 iterate 4 (first | refine zS ?_ | exact zT)
 refine SWp.adoptC 2 1 0 100 none (nl := false) (cells := [.sc (.slice none 0 0), int 0]) (by (first | exact yT | refine yS ?_)) rfl (by decide) ?_
 repeat (first | refine zR @List.set_cons_zero.{0} ?_ | exact zU @List.set_cons_zero.{0})
set_option maxRecDepth 100000 in
theorem huff_wbit_h [Tabs Tryz.prog] (L : List Nat) (hl : L.length ≤ 3000000) (hL : ∀ x ∈ L, x < 2) (n i : Nat) (hn : n = (L.length + 7) / 8) (hi : i = L.length) (x : Nat) (hx : x < 2) :
   HCon Tryz.prog n_huff_Writer_bit [.op 1000 0 0, .sc (.int .i64 (x : Int))] [.row false (wrR 0 n i), .row (nl0 n) ((bytesB L).map u8)] (.tup [])
     [(1000, 0, .row false (wrR 1 ((i + 8) / 8) (i + 1))), (1001, 1, .row false ((bytesB (L ++ [x])).map u8))] 2 := by
 refine HCon.of' mix Tryz.func121 rfl Tryz.ntmps121 e_huff_Writer_bit r_huff_Writer_bit (by simp) (by simp [AV.gl, AV.gl.glL]) wr_gl ?_
 unfold s_huff_Writer_bit
 have hbl : (bytesB L).length = n := by rw [length_bytesB, hn]
 by_cases c0 : i % 8 = 0
 · have hs := bytesB_snoc0 (L := L) (x := x) (by omega)
   have hin : i / 8 = n := by omega
   have hn1 : (i + 8) / 8 = n + 1 := by omega
   obtain ⟨b, hb⟩ : ∃ b, b = bytesB L := ⟨_, rfl⟩
   rw [← hb] at hs hbl ⊢
   rw [hs, hn1]
   obtain ⟨b0, hb0⟩ : ∃ b0, b0 = b ++ [0] := ⟨_, rfl⟩
   have hrow : b.map u8 ++ [AV.sc (.int .u8 0)] = b0.map u8 := by rw [hb0]; simp [u8]
   have hl0 : b0.length = n + 1 := by rw [hb0]; simp [hbl]
   have hg0 : b0.getD n 0 = 0 := by rw [hb0, ← hbl]; simp [List.getD]
   have hset : b0.set n (UInt8.ofNat x) = b ++ [UInt8.ofNat x] := by rw [hb0, ← hbl]; simp
   have hor : aInt .or .u8 ((b0.getD n 0).toNat : Int) .u8 (x : Int) = (True, .sc (.int .u8 ((UInt8.ofNat x).toNat : Int))) := by
     rw [hg0]
     obtain rfl | rfl : x = 0 ∨ x = 1 := by omega
     · exact or_u8 (n := 0) (m := 0) (by omega) (by omega)
     · exact or_u8 (n := 0) (m := 1) (by omega) (by omega)
   have hfin := splice_u8 (b := b0) (k := n) (c := UInt8.ofNat x) (by omega)
   rw [hset] at hfin
   repeat (first | refine zR (ja7 @wrR.eq_1 @c0 @hin @hrow @hor @hfin iR) ?_ | exact zU (ja7 @wrR.eq_1 @c0 @hin @hrow @hor @hfin iR))
 · have hs := bytesB_snoc1 (L := L) (x := x) (by omega)
   have hla := bytesB_last (L := L) (by omega)
   obtain ⟨q, hq⟩ : ∃ q, q = L.length / 8 := ⟨_, rfl⟩
   obtain ⟨j, hj⟩ : ∃ j, j = L.length % 8 := ⟨_, rfl⟩
   rw [← hq] at hs hla
   rw [← hj] at hs
   have hlt := numB_lt (l := L.drop (8 * q)) fun y hy => hL y (List.mem_of_mem_drop hy)
   have hdl : (L.drop (8 * q)).length = j := by rw [List.length_drop]; omega
   rw [hdl] at hlt
   obtain ⟨y, hy⟩ : ∃ y, y = numB (L.drop (8 * q)) := ⟨_, rfl⟩
   rw [← hy] at hs hla hlt
   have hp : 2 ^ j ≤ 128 := two_pow_le (n := j) (m := 7) (by omega)
   obtain ⟨z, hz⟩ : ∃ z, z = x * 2 ^ j := ⟨_, rfl⟩
   have hzl : z ≤ 128 := by
     obtain rfl | rfl : x = 0 ∨ x = 1 := by omega
     · omega
     · omega
   have hor : y ||| z = y + 2 ^ j * x := by
     rw [hz, Nat.mul_comm, Nat.or_comm, ← Nat.two_pow_add_eq_or_of_lt hlt, Nat.add_comm]
   have hyz : y + 2 ^ j * x < 256 := by
     rw [Nat.mul_comm, ← hz]
     have := Nat.or_lt_two_pow (n := 8) (x := y) (y := z) (by omega) (by omega)
     rw [hor, Nat.mul_comm, ← hz] at this
     exact this
   have hiq : i / 8 = q := by omega
   have hij : i % 8 = j := by omega
   have hi8 : (i + 8) / 8 = n := by omega
   have hqn : q < n := by omega
   obtain ⟨b, hb⟩ : ∃ b, b = bytesB L := ⟨_, rfl⟩
   rw [← hb] at hs hla hbl ⊢
   rw [hs, hi8]
   have hbq : ((b.getD q 0).toNat : Int) = (y : Int) := by rw [hla, UInt8.toNat_ofNat', Nat.mod_eq_of_lt (by omega)]
   obtain ⟨c, hc⟩ : ∃ c, c = UInt8.ofNat (y + 2 ^ j * x) := ⟨_, rfl⟩
   have hcy : y ||| z = c.toNat := by rw [hc, hor, UInt8.toNat_ofNat', Nat.mod_eq_of_lt hyz]
   rw [← hc]
   have hfin := splice_u8 (b := b) (k := q) (c := c) (by omega)
   have dj : decide ((j : Int) = 0) = false := decide_eq_false (by omega)
   have hnl : nl0 n = false := nl0_pos (by omega)
   refine SWp.renew 1001 0 (o := .row (nl0 n) (b.map u8)) (by (first | exact yU @wrR.eq_1 | refine yR @wrR.eq_1 ?_)) ?_
   refine SWp.le (le_mk (N := 47) (gc := 2) (l := [(0, .op 1000 0 0), (1, .sc (.int .i64 (x : Int)))]) (h := [(1000, 0, .row false (wrR 1 n i)), (1001, 1, .row false (b.map u8))]) rfl ?_ ?_ ?_) ?_
   · exact Nat.le_refl _
   iterate 2 (case _ => (first | exact yU (ja4 @rgn_eq @wrR.eq_1 @rgH_at @hnl) | refine yR (ja4 @rgn_eq @wrR.eq_1 @rgH_at @hnl) ?_))
   repeat (first | refine zR (ja8 @wrR.eq_1 @hij @dj @hiq @hbq hz.symm @hcy (ja2 @hfin iR)) ?_ | exact zU (ja8 @wrR.eq_1 @hij @dj @hiq @hbq hz.symm @hcy (ja2 @hfin iR)))
set_option maxRecDepth 100000 in
theorem huff_Put_h [Tabs Tryz.prog] (L : List Nat) (hl : L.length ≤ 2000000) (hL : ∀ x ∈ L, x < 2) (v : Nat) (hv : v < 16777216) (n : Nat) (hn : n ≤ 24) (i m : Nat) (hi : i = L.length) (hm : m = (L.length + 7) / 8) :
   HCon Tryz.prog n_huff_Writer_Put [.op 1000 0 0, .sc (.int .i64 (v : Int)), .sc (.int .i64 (n : Int))] [.row false (wrR 0 m i), .row (nl0 m) ((bytesB L).map u8)] (.tup [])
     [(1000, 0, .row false (wrR 60 ((i + n + 7) / 8) (i + n))), (1001, 60, .row (nl0 ((i + n + 7) / 8)) ((bytesB (L ++ digB v n)).map u8))] 61 := by
 refine HCon.of' mix Tryz.func80 rfl Tryz.ntmps80 e_huff_Writer_Put r_huff_Writer_Put (by simp) (by simp [AV.gl, AV.gl.glL]) wr_gl ?_
 unfold s_huff_Writer_Put
 have d1 : decide ((n : Int) < 0) = false := decide_eq_false (by omega)
 have d2 : decide (24 < (n : Int)) = false := decide_eq_false (by omega)
 repeat (first | refine zR (ja2 @d1 @d2) ?_ | exact zU (ja2 @d1 @d2))
 refine SWp.loop (α := Nat × Nat) (fun x => mk 24 (1 + 2 * x.1) [(0, .op 1000 0 0), (1, .sc (.int .i64 (v : Int))), (13, int n), (14, int x.1)] [(1000, 0, .row false (wrR x.2 ((i + x.1 + 7) / 8) (i + x.1))), (1001, x.2, .row (nl0 ((i + x.1 + 7) / 8)) ((bytesB (L ++ (digB v n).take x.1)).map u8))])
   (fun x => x.1 ≤ n) (fun x => n - x.1) (0, 0) (Nat.zero_le _) (le_mk rfl ?_ ?_ ?_) ?_
 · exact Nat.le_refl _
 · (first | exact yT | refine yS ?_)
 · (first | exact yU (ja3 @wrR.eq_1 @List.take_zero.{0} @List.append_nil.{0}) | refine yR (ja3 @wrR.eq_1 @List.take_zero.{0} @List.append_nil.{0}) ?_)
   rw [hm, hi]; exact ⟨rfl, rfl⟩
 rintro ⟨k, g⟩ hk -
 simp only at hk
 repeat (first | refine zS ?_ | exact zT)
 refine SWp.cond rfl (fun h => ?_) (fun h => ?_)
 · simp only [decide_eq_true_eq] at h
   have hkn : k < n := by omega
   have hs := digB_snoc (v := v) hkn
   obtain ⟨L', hL'⟩ : ∃ L', L' = L ++ (digB v n).take k := ⟨_, rfl⟩
   have hll : L'.length = i + k := by rw [hL', List.length_append, List.length_take, length_digB]; omega
   have hL2 : ∀ x ∈ L', x < 2 := by
     rw [hL']
     intro x hx
     rcases List.mem_append.1 hx with h | h
     · exact hL x h
     · exact digB_lt x (List.mem_of_mem_take h)
   obtain ⟨y, hy⟩ : ∃ y, y = v / 2 ^ k := ⟨_, rfl⟩
   rw [← hy] at hs
   have hyv : y < 16777216 := by rw [hy]; exact Nat.lt_of_le_of_lt (Nat.div_le_self _ _) hv
   have hbit := huff_wbit_h L' (by omega) hL2 ((i + k + 7) / 8) (i + k) (by rw [hll]) hll.symm (y % 2) (Nat.mod_lt _ (by omega))
   have hs2 : L ++ (digB v n).take (k + 1) = L' ++ [y % 2] := by rw [hs, hL', List.append_assoc]
   rw [← hL']
   have e78 : i + (k + 1) + 7 = i + k + 8 := by omega
   have hnl : nl0 ((i + k + 8) / 8) = false := nl0_pos (by omega)
   repeat (first | refine zR (ja2 hy.symm @wrR.eq_1) ?_ | exact zU (ja2 hy.symm @wrR.eq_1))
   refine goC_h [(1000, 0), (1001, g)] 2000 hbit (by simp) (by simp) ?_ ?_ ?_
   iterate 2 (case _ => (first | exact yU (ja2 @wrR.eq_1 iR) | refine yR (ja2 @wrR.eq_1 iR) ?_))
   repeat (first | refine zR (ja2 @wrR.eq_1 iR) ?_ | exact zU (ja2 @wrR.eq_1 iR))
   refine At.of (k + 1, 1 + 2 * k + 1) (by simp only; omega) (by simp only; omega) rfl rfl ?_ ?_ ?_
   · simp only; omega
   iterate 2 (case _ => (first | exact yU (ja5 @wrR.eq_1 @hs2 @e78 @hnl @Int.add_assoc) | refine yR (ja5 @wrR.eq_1 @hs2 @e78 @hnl @Int.add_assoc) ?_))
 · simp only [decide_eq_false_iff_not] at h
   obtain rfl : k = n := by omega
   have ht : (digB v k).take k = digB v k := List.take_of_length_le (by rw [length_digB]; exact Nat.le_refl _)
   rw [ht]
   refine SWp.le (le_mk (N := 24) (gc := 60) (l := []) (h := [(1000, 0, .row false (wrR g ((i + k + 7) / 8) (i + k))), (1001, g, .row (nl0 ((i + k + 7) / 8)) ((bytesB (L ++ digB v k)).map u8))]) rfl ?_ ?_ ?_) ?_
   · (first | exact yT | refine yS ?_)
     omega
   iterate 2 (case _ => (first | exact yT | refine yS ?_))
   refine SWp.renew 1001 g (o := .row (nl0 ((i + k + 7) / 8)) ((bytesB (L ++ digB v k)).map u8)) (by (first | exact yT | refine yS ?_)) ?_
   refine SWp.le (le_mk (N := 24) (gc := 61) (l := []) (h := [(1000, 0, .row false (wrR 60 ((i + k + 7) / 8) (i + k))), (1001, 60, .row (nl0 ((i + k + 7) / 8)) ((bytesB (L ++ digB v k)).map u8))]) rfl ?_ ?_ ?_) ?_
   iterate 3 (case _ => (first | exact yU (ja3 @wrR.eq_1 @rgH_at @rgn_eq) | refine yR (ja3 @wrR.eq_1 @rgH_at @rgn_eq) ?_))
   repeat (first | refine zR iR ?_ | exact zU iR)
set_option maxRecDepth 100000 in
theorem huff_Code_h [Tabs Tryz.prog] (L : List Nat) (hl : L.length ≤ 2000000) (hL : ∀ x ∈ L, x < 2) (v : Nat) (hv : v < 33554432) (n : Nat) (hn : n ≤ 15) (i m : Nat) (hi : i = L.length) (hm : m = (L.length + 7) / 8) :
   HCon Tryz.prog n_huff_Writer_Code [.op 1000 0 0, .sc (.int .i64 (v : Int)), .sc (.int .i64 (n : Int))] [.row false (wrR 0 m i), .row (nl0 m) ((bytesB L).map u8)] (.tup [])
     [(1000, 0, .row false (wrR 60 ((i + n + 7) / 8) (i + n))), (1001, 60, .row (nl0 ((i + n + 7) / 8)) ((bytesB (L ++ rowB v n)).map u8))] 61 := by
 refine HCon.of' mix Tryz.func122 rfl Tryz.ntmps122 e_huff_Writer_Code r_huff_Writer_Code (by simp) (by simp [AV.gl, AV.gl.glL]) wr_gl ?_
 unfold s_huff_Writer_Code
 have d1 : decide ((n : Int) < 0) = false := decide_eq_false (by omega)
 have d2 : decide (15 < (n : Int)) = false := decide_eq_false (by omega)
 repeat (first | refine zR (ja2 @d1 @d2) ?_ | exact zU (ja2 @d1 @d2))
 refine SWp.loop (α := Nat × Nat) (fun x => mk 27 (1 + 2 * x.1) [(0, .op 1000 0 0), (1, .sc (.int .i64 (v : Int))), (2, int n), (13, int n), (14, int x.1)] [(1000, 0, .row false (wrR x.2 ((i + x.1 + 7) / 8) (i + x.1))), (1001, x.2, .row (nl0 ((i + x.1 + 7) / 8)) ((bytesB (L ++ (rowB v n).take x.1)).map u8))])
   (fun x => x.1 ≤ n) (fun x => n - x.1) (0, 0) (Nat.zero_le _) (le_mk rfl ?_ ?_ ?_) ?_
 · exact Nat.le_refl _
 · (first | exact yT | refine yS ?_)
 · (first | exact yU (ja3 @wrR.eq_1 @List.take_zero.{0} @List.append_nil.{0}) | refine yR (ja3 @wrR.eq_1 @List.take_zero.{0} @List.append_nil.{0}) ?_)
   rw [hm, hi]; exact ⟨rfl, rfl⟩
 rintro ⟨k, g⟩ hk -
 simp only at hk
 repeat (first | refine zS ?_ | exact zT)
 refine SWp.cond rfl (fun h => ?_) (fun h => ?_)
 · simp only [decide_eq_true_eq] at h
   have hkn : k < n := by omega
   have hs := rowB_snoc (v := v) hkn
   obtain ⟨L', hL'⟩ : ∃ L', L' = L ++ (rowB v n).take k := ⟨_, rfl⟩
   have hll : L'.length = i + k := by rw [hL', List.length_append, List.length_take, length_rowB]; omega
   have hL2 : ∀ x ∈ L', x < 2 := by
     rw [hL']
     intro x hx
     rcases List.mem_append.1 hx with h | h
     · exact hL x h
     · exact rowB_lt x (List.mem_of_mem_take h)
   obtain ⟨j, hj⟩ : ∃ j, j = n - 1 - k := ⟨_, rfl⟩
   have hj2 : (n : Int) - 1 - (k : Int) = (j : Int) := by omega
   have hj3 : j ≤ 15 := by omega
   obtain ⟨y, hy⟩ : ∃ y, y = v / 2 ^ j := ⟨_, rfl⟩
   rw [← hj, ← hy] at hs
   have hyv : y < 33554432 := by rw [hy]; exact Nat.lt_of_le_of_lt (Nat.div_le_self _ _) hv
   have hbit := huff_wbit_h L' (by omega) hL2 ((i + k + 7) / 8) (i + k) (by rw [hll]) hll.symm (y % 2) (Nat.mod_lt _ (by omega))
   have hs2 : L ++ (rowB v n).take (k + 1) = L' ++ [y % 2] := by rw [hs, hL', List.append_assoc]
   rw [← hL']
   have e78 : i + (k + 1) + 7 = i + k + 8 := by omega
   have hnl : nl0 ((i + k + 8) / 8) = false := nl0_pos (by omega)
   repeat (first | refine zR (ja3 @hj2 hy.symm @wrR.eq_1) ?_ | exact zU (ja3 @hj2 hy.symm @wrR.eq_1))
   refine goC_h [(1000, 0), (1001, g)] 2000 hbit (by simp) (by simp) ?_ ?_ ?_
   iterate 2 (case _ => (first | exact yU (ja2 @wrR.eq_1 iR) | refine yR (ja2 @wrR.eq_1 iR) ?_))
   repeat (first | refine zR (ja2 @wrR.eq_1 iR) ?_ | exact zU (ja2 @wrR.eq_1 iR))
   refine At.of (k + 1, 1 + 2 * k + 1) (by simp only; omega) (by simp only; omega) rfl rfl ?_ ?_ ?_
   · simp only; omega
   iterate 2 (case _ => (first | exact yU (ja5 @wrR.eq_1 @hs2 @e78 @hnl @Int.add_assoc) | refine yR (ja5 @wrR.eq_1 @hs2 @e78 @hnl @Int.add_assoc) ?_))
 · simp only [decide_eq_false_iff_not] at h
   obtain rfl : k = n := by omega
   have ht : (rowB v k).take k = rowB v k := List.take_of_length_le (by rw [length_rowB]; exact Nat.le_refl _)
   rw [ht]
   refine SWp.le (le_mk (N := 27) (gc := 60) (l := []) (h := [(1000, 0, .row false (wrR g ((i + k + 7) / 8) (i + k))), (1001, g, .row (nl0 ((i + k + 7) / 8)) ((bytesB (L ++ rowB v k)).map u8))]) rfl ?_ ?_ ?_) ?_
   · (first | exact yT | refine yS ?_)
     omega
   iterate 2 (case _ => (first | exact yT | refine yS ?_))
   refine SWp.renew 1001 g (o := .row (nl0 ((i + k + 7) / 8)) ((bytesB (L ++ rowB v k)).map u8)) (by (first | exact yT | refine yS ?_)) ?_
   refine SWp.le (le_mk (N := 27) (gc := 61) (l := []) (h := [(1000, 0, .row false (wrR 60 ((i + k + 7) / 8) (i + k))), (1001, 60, .row (nl0 ((i + k + 7) / 8)) ((bytesB (L ++ rowB v k)).map u8))]) rfl ?_ ?_ ?_) ?_
   iterate 3 (case _ => (first | exact yU (ja3 @wrR.eq_1 @rgH_at @rgn_eq) | refine yR (ja3 @wrR.eq_1 @rgH_at @rgn_eq) ?_))
   repeat (first | refine zR iR ?_ | exact zU iR)
theorem huff_WBytes_h [Tabs Tryz.prog] (n i : Nat) (b : List UInt8) (hb : b.length = n) (hn : n ≤ 1000000) : HCon Tryz.prog n_huff_Writer_Bytes [.op 1000 0 0] [.row false (wrR 0 n i), .row (nl0 n) (b.map u8)] (.sl (nl0 n) none (b.map u8)) [(1000, 0, .row false (wrR 0 n i)), (1001, 0, .row (nl0 n) (b.map u8))] 10 := by
 refine HCon.of' mix Tryz.func24 rfl Tryz.ntmps24 e_huff_Writer_Bytes r_huff_Writer_Bytes (by simp) (by simp [AV.gl, AV.gl.glL]) wr_gl ?_
 unfold s_huff_Writer_Bytes
 have hnl : nl0 n = true → b = [] := by
   intro h
   cases n with
   | zero => exact List.eq_nil_of_length_eq_zero hb
   | succ n => simp [nl0] at h
 have hcl := bytes_Clone_h (nl0 n) b (by omega) hnl
 rw [hb] at hcl
 repeat (first | refine zR @wrR.eq_1 ?_ | exact zU @wrR.eq_1)
 refine goC_hB [] 2000 hcl (by simp) (by simp) ?_ ?_ rfl ?_ ?_
 · (first | exact yT | refine yS ?_)
 · refine ⟨.inr ⟨?_, ?_⟩, trivial⟩
   · (first | exact yU @hb | refine yR @hb ?_)
   · simp only [AV.free, free_u8]
 · simp only [foH, foL_b8, Bool.and_self]
 iterate 1 (first | refine zR @wrR.eq_1 ?_ | exact zU @wrR.eq_1)
 refine SWp.frzo 2005 3 (nl := nl0 n) (cells := b.map u8) (by (first | exact yT | refine yS ?_)) free_u8 ?_
 refine SWp.le (le_mk (N := 8) (gc := 4) (l := [(2, .sl (nl0 n) none (b.map u8))]) (h := [(1000, 0, .row false (wrR 0 n i)), (1001, 0, .row (nl0 n) (b.map u8))]) rfl ?_ ?_ ?_) ?_
 iterate 3 (case _ => (first | exact yU (ja3 fR @hb @wrR.eq_1) | refine yR (ja3 fR @hb @wrR.eq_1) ?_))
 repeat (first | refine zR @wrR.eq_1 ?_ | exact zU @wrR.eq_1)
end Go.Proofs.YtbcncdpaigljeaaGreatDoor.Aw
namespace Go.Proofs.YtbcncdpaigljeaaGreatDoor.Aw
open Go
set_option linter.unusedSimpArgs false
set_option linter.unusedVariables false
def symB (l : List Nat) (s : Nat × Nat × Nat) : List Nat := rowB ((codesL l).getD s.1 0) (l.getD s.1 0) ++ digB s.2.1 s.2.2
theorem symB_lt {l : List Nat} {s : Nat × Nat × Nat} : ∀ x ∈ symB l s, x < 2 := fun x hx => (List.mem_append.1 hx).elim (rowB_lt x) (digB_lt x)
theorem length_symB {l : List Nat} {s : Nat × Nat × Nat} : (symB l s).length = l.getD s.1 0 + s.2.2 := by rw [symB, List.length_append, length_rowB, length_digB]
structure SyOk (l : List Nat) (s : Nat × Nat × Nat) : Prop where
 num : s.1 < l.length
 more : s.2.1 < 16777216
 bits : s.2.2 ≤ 24
theorem getD_le {l : List Nat} (h : ∀ x ∈ l, x ≤ 15) {i : Nat} (hi : i < l.length) : l.getD i 0 ≤ 15 := by
 have : l.getD i 0 = l[i] := by simp [List.getD, hi]
 rw [this]; exact h _ (List.getElem_mem _)
theorem codesL_small {l : List Nat} (h : LnOk l) {i : Nat} (hi : i < l.length) : (codesL l).getD i 0 < 33554432 := by
 have e : (codesL l).getD i 0 = codeOf l i := by simp [codesL, List.getD, hi]
 rw [e, codeOf]
 split
 · omega
 · have h1 := fr_lt h.len (getD_le h.small hi)
   have h2 := count_take_le (l := l) (k := i) (n := l.getD i 0)
   have := h.len
   omega
set_option maxRecDepth 100000 in
theorem packer_symbol_h [Tabs Tryz.prog] (L : List Nat) (hl : L.length ≤ 1900000) (hL : ∀ x ∈ L, x < 2) (nl : Bool) (l : List Nat) (ho : LnOk l) (s : Nat × Nat × Nat) (hs : SyOk l s) (i m : Nat) (hi : i = L.length) (hm : m = (L.length + 7) / 8) (j : Nat) (hj : j = (L ++ symB l s).length) :
   HCon Tryz.prog n_deflate_packer_symbol [.agg [.op 1000 0 0], cdA nl l, syA s] [.row false (wrR 0 m i), .row (nl0 m) ((bytesB L).map u8)] (.tup [])
     [(1000, 0, .row false (wrR 125 ((j + 7) / 8) j)), (1001, 125, .row (nl0 ((j + 7) / 8)) ((bytesB (L ++ symB l s)).map u8))] 126 := by
 refine HCon.of' mix Tryz.func82 rfl Tryz.ntmps82 e_deflate_packer_symbol r_deflate_packer_symbol (by simp) ?_ wr_gl ?_
 · simp only [AV.gl.glL, AV.gl, cdA, syA, and_true, true_and]
   exact ⟨by omega, glL_of_free _ _ free_nA, glL_of_free _ _ free_nA⟩
 unfold s_deflate_packer_symbol
 obtain ⟨a, b, c⟩ := s
 have hs1 := hs.num
 have hs2 := hs.more
 have hs3 := hs.bits
 simp only at hs1 hs2 hs3
 have hcl := length_codesL (l := l)
 have g1 : ((codesL l).map nA).getD a .junk = .sc (.int .i64 ((codesL l).getD a 0 : Int)) := getD_nA (by omega)
 have g2 : (l.map nA).getD a .junk = .sc (.int .i64 (l.getD a 0 : Int)) := getD_nA hs1
 have hv := codesL_small ho hs1
 have hn := getD_le ho.small hs1
 rw [List.length_append, length_symB] at hj
 obtain ⟨C, hC⟩ : ∃ C, C = codesL l := ⟨_, rfl⟩
 have hsy : symB l (a, b, c) = rowB (C.getD a 0) (l.getD a 0) ++ digB b c := by rw [symB, hC]
 rw [hsy]
 simp only at hj
 unfold cdA
 rw [← hC] at g1 hv hcl ⊢
 obtain ⟨v, hve⟩ : ∃ v, v = C.getD a 0 := ⟨_, rfl⟩
 obtain ⟨n, hne⟩ : ∃ v, v = l.getD a 0 := ⟨_, rfl⟩
 rw [← hve] at g1 hv ⊢
 rw [← hne] at g2 hn hj ⊢
 have p1 := huff_Code_h L (by omega) hL v hv n hn i m hi hm
 have hL1 : ∀ x ∈ L ++ rowB v n, x < 2 := fun x hx => (List.mem_append.1 hx).elim (hL x) (rowB_lt x)
 have hl1 : (L ++ rowB v n).length = i + n := by rw [List.length_append, length_rowB, hi]
 have p2 := huff_Put_h (L ++ rowB v n) (by omega) hL1 b hs2 c hs3 (i + n) ((i + n + 7) / 8) (by omega) (by omega)
 rw [List.append_assoc] at p2
 have hj2 : i + n + c = j := by omega
 rw [hj2] at p2
 obtain ⟨b1, e1⟩ : ∃ b, b = bytesB (L ++ rowB v n) := ⟨_, rfl⟩
 obtain ⟨b2, e2⟩ : ∃ x, x = bytesB (L ++ (rowB v n ++ digB b c)) := ⟨_, rfl⟩
 rw [← e1] at p1 p2
 rw [← e2] at p2 ⊢
 repeat (first | refine zR (ja5 @syA.eq_1 @List.length_map.{0, 0} @g1 @g2 @hcl) ?_ | exact zU (ja5 @syA.eq_1 @List.length_map.{0, 0} @g1 @g2 @hcl))
 refine goC_h [(1000, 0), (1001, 0)] 2000 p1 (by simp) (by simp) ?_ ?_ ?_
 iterate 2 (case _ => (first | exact yU @wrR.eq_1 | refine yR @wrR.eq_1 ?_))
 repeat (first | refine zR (ja2 @wrR.eq_1 iR) ?_ | exact zU (ja2 @wrR.eq_1 iR))
 refine goC_h [(1000, 0), (1001, 64)] 3000 p2 (by simp) (by simp) ?_ ?_ ?_
 iterate 2 (case _ => (first | exact yU @wrR.eq_1 | refine yR @wrR.eq_1 ?_))
 repeat (first | refine zR (ja2 @wrR.eq_1 iR) ?_ | exact zU (ja2 @wrR.eq_1 iR))
theorem blen_log {v n : Nat} (h1 : 2 ^ n ≤ v) (h2 : v < 2 ^ (n + 1)) (hn : n < 17) : blen v = n + 1 := by
 unfold blen
 have e : List.range 17 = List.range (n + 1) ++ (List.range (16 - n)).map ((n + 1) + ·) := by
   have := List.range_add (n := n + 1) (m := 16 - n)
   rwa [show n + 1 + (16 - n) = 17 by omega] at this
 rw [e, List.countP_append, List.countP_eq_length.2 (fun k hk => by
   have hk := List.mem_range.1 hk
   have : 2 ^ k ≤ 2 ^ n := Nat.pow_le_pow_right (by omega) (by omega)
   simp only [decide_eq_true_eq]; omega), List.countP_eq_zero.2 (fun k hk => by
   rw [List.mem_map] at hk
   obtain ⟨j, _, rfl⟩ := hk
   have : 2 ^ (n + 1) ≤ 2 ^ (n + 1 + j) := Nat.pow_le_pow_right (by omega) (by omega)
   simp only [decide_eq_true_eq]; omega)]
 simp
theorem dst_num {w : Nat} (h : w < 32768) : symN w 1 < 30 := by
 by_cases c : w = 0
 · subst c; decide
 · obtain ⟨n, h1, h2⟩ : ∃ n, 2 ^ n ≤ w ∧ w < 2 ^ (n + 1) := ⟨w.log2, Nat.log2_self_le c, Nat.lt_log2_self⟩
   have hn : n < 15 := by
     rcases Nat.lt_or_ge n 15 with h | h
     · exact h
     · have : 2 ^ 15 ≤ 2 ^ n := Nat.pow_le_pow_right (by omega) h
       omega
   have hb := blen_log h1 h2 (by omega)
   have hl : symLow w 1 = n - 1 := by rw [symLow, hb]; omega
   rw [symN, hl]
   have hq : w / 2 ^ (n - 1) < 4 := by
     rw [Nat.div_lt_iff_lt_mul (Nat.two_pow_pos _)]
     have e4 : 4 * 2 ^ (n - 1) = 2 ^ (n - 1 + 2) := by rw [Nat.pow_add, Nat.mul_comm]
     rw [e4]
     exact Nat.lt_of_lt_of_le h2 (Nat.pow_le_pow_right (by omega) (by omega))
   by_cases c1 : n = 0
   · subst c1
     have : w = 1 := by omega
     subst this; decide
   · omega
theorem lit_num : ∀ w, w < 255 → symN w 2 < 28 := by decide +kernel
theorem symLow_le {w h : Nat} : symLow w h ≤ 17 := by have := blen_le (v := w); rw [symLow]; omega
theorem lit_ok {l : List Nat} (hl : 286 ≤ l.length) {p : Nat × Nat} (hp : pcOk p) : SyOk l (litS p) := by
 obtain ⟨v, b⟩ := p
 simp only [pcOk] at hp
 unfold litS
 split
 · exact ⟨by simp only; omega, by simp, by simp⟩
 split
 · exact ⟨by simp only; omega, by simp, by simp⟩
 · rename_i h1 h2
   simp only at h1 h2
   have := lit_num (v - 3) (by omega)
   exact ⟨by simp only; omega, by simp only; omega, Nat.le_trans symLow_le (by omega)⟩
theorem dst_ok {d : List Nat} (hd : 30 ≤ d.length) {p : Nat × Nat} (hp : pcOk p) (h0 : 0 < p.2) : SyOk d (dstS p) := by
 obtain ⟨v, b⟩ := p
 simp only [pcOk] at hp
 simp only at h0
 have := dst_num (w := b - 1) (by omega)
 exact ⟨by simp only [dstS]; omega, by simp only [dstS]; omega, Nat.le_trans symLow_le (by omega)⟩
theorem end_ok {l : List Nat} (hl : 286 ≤ l.length) : SyOk l (256, 0, 0) := ⟨by simp only; omega, by simp, by simp⟩
def pcB (l d : List Nat) (p : Nat × Nat) : List Nat := symB l (litS p) ++ if 0 < p.2 then symB d (dstS p) else []
def pcsB (l d : List Nat) (P : List (Nat × Nat)) : List Nat := P.flatMap (pcB l d) ++ symB l (256, 0, 0)
theorem symB_len {l : List Nat} (h : LnOk l) {s : Nat × Nat × Nat} (hs : SyOk l s) : (symB l s).length ≤ 39 := by
 rw [length_symB]
 have := getD_le h.small hs.num
 have := hs.bits
 omega
theorem pcB_len {l d : List Nat} (hl : LnOk l) (hd : LnOk d) (h1 : 286 ≤ l.length) (h2 : 30 ≤ d.length) {p : Nat × Nat} (hp : pcOk p) : (pcB l d p).length ≤ 78 := by
 rw [pcB, List.length_append]
 have := symB_len hl (lit_ok h1 hp)
 split
 · rename_i c
   have := symB_len hd (dst_ok h2 hp c)
   omega
 · simp only [List.length_nil]; omega
theorem flat_len {l d : List Nat} (hl : LnOk l) (hd : LnOk d) (h1 : 286 ≤ l.length) (h2 : 30 ≤ d.length) : ∀ {P : List (Nat × Nat)}, (∀ p ∈ P, pcOk p) → (P.flatMap (pcB l d)).length ≤ 78 * P.length
 | [], _ => Nat.le_refl _
 | p :: P, h => by
   rw [List.flatMap_cons, List.length_append, List.length_cons]
   have := pcB_len hl hd h1 h2 (h p (by simp))
   have := flat_len hl hd h1 h2 (P := P) fun q hq => h q (by simp [hq])
   omega
end Go.Proofs.YtbcncdpaigljeaaGreatDoor.Aw
namespace Go.Proofs.YtbcncdpaigljeaaGreatDoor.Aw
open Go
set_option linter.unusedSimpArgs false
set_option linter.unusedVariables false
theorem getD_pc {l : List (Nat × Nat)} {i : Nat} (h : i < l.length) : (l.map pcA).getD i .junk = pcA (l.getD i (0, 0)) := by simp [List.getD, h]
set_option maxHeartbeats 1000000 in
set_option maxRecDepth 100000 in
theorem packer_pieces_h [Tabs Tryz.prog] (L : List Nat) (hl : L.length ≤ 300000) (hL : ∀ x ∈ L, x < 2) (nl : Bool) (P : List (Nat × Nat)) (hP : P.length ≤ 20000) (hok : ∀ p ∈ P, pcOk p) (l d : List Nat) (ol : LnOk l) (od : LnOk d) (l1 : 286 ≤ l.length) (d1 : 30 ≤ d.length) (i m : Nat) (hi : i = L.length) (hm : m = (L.length + 7) / 8) (j : Nat) (hj : j = (L ++ pcsB l d P).length) :
   HCon Tryz.prog n_deflate_packer_pieces [.agg [.op 1000 0 0], .sl nl (some 2) (P.map pcA), cdsA l d] [.row false (wrR 0 m i), .row (nl0 m) ((bytesB L).map u8)] (.tup [])
     [(1000, 0, .row false (wrR (KE + 1) ((j + 7) / 8) j)), (1001, KE + 1, .row (nl0 ((j + 7) / 8)) ((bytesB (L ++ pcsB l d P)).map u8))] (KE + 2) := by
 refine HCon.of' mix Tryz.func47 rfl Tryz.ntmps47 e_deflate_packer_pieces r_deflate_packer_pieces (by simp) ?_ wr_gl ?_
 · simp only [AV.gl.glL, AV.gl, cdsA, and_true, true_and]
   exact ⟨by omega, glL_of_free _ _ free_pcs, glL_of_free _ _ free_nA, glL_of_free _ _ free_nA, glL_of_free _ _ free_nA, glL_of_free _ _ free_nA⟩
 unfold s_deflate_packer_pieces
 obtain ⟨C, hC⟩ : ∃ C, C = codesL l := ⟨_, rfl⟩
 obtain ⟨D, hD⟩ : ∃ D, D = codesL d := ⟨_, rfl⟩
 unfold cdsA
 rw [← hC, ← hD]
 repeat (first | refine zR @List.length_map.{0, 0} ?_ | exact zU @List.length_map.{0, 0})
 obtain ⟨A, hA⟩ : ∃ A, A = P.map pcA := ⟨_, rfl⟩
 have hAl : A.length = P.length := by rw [hA, List.length_map]
 rw [← hA]
 refine SWp.loop (α := Nat × List Nat × Nat × Nat) (fun x => mk 34 x.2.2.2 [(3, .op 3 1 0), (5, .op 5 2 0), (8, .sl nl (some 2) A), (9, int P.length), (10, int x.1)] [(1000, 0, .row false (wrR x.2.2.1 ((x.2.1.length + 7) / 8) x.2.1.length)), (1001, x.2.2.1, .row (nl0 ((x.2.1.length + 7) / 8)) ((bytesB x.2.1).map u8)), (3, 1, .row false [.op 1000 0 0]), (5, 2, .row false [.sl false none (l.map nA), .sl false none (C.map nA), .sl false none (d.map nA), .sl false none (D.map nA)])])
   (fun x => x.1 ≤ P.length ∧ x.2.1 = L ++ (P.take x.1).flatMap (pcB l d) ∧ (∀ y ∈ x.2.1, y < 2) ∧ x.2.1.length ≤ 300000 + 78 * x.1 ∧ x.2.2.2 ≤ 3 + 300 * x.1) (fun x => P.length - x.1) (0, L, 0, 3) ⟨Nat.zero_le _, by simp, hL, by simpa using hl, by simp⟩ (le_mk rfl ?_ ?_ ?_) ?_
 · exact Nat.le_refl _
 iterate 2 (case _ => (first | exact yU (ja2 @hi @hm) | refine yR (ja2 @hi @hm) ?_))
 rintro ⟨k, X, g, gc⟩ ⟨hk, hX, hX2, hXl, hgc⟩ -
 simp only at hk hX hX2 hXl hgc
 by_cases ck : k < P.length
 · have dk : decide ((k : Int) < (P.length : Int)) = true := decide_eq_true (by omega)
   obtain ⟨p, hp⟩ : ∃ p, p = P.getD k (0, 0) := ⟨_, rfl⟩
   have hpP : p ∈ P := by
     have : P.getD k (0, 0) = P[k] := by simp [List.getD, ck]
     rw [hp, this]; exact List.getElem_mem _
   have ho := hok p hpP
   have hg : A.getD k .junk = .agg [.sc (.int .u16 (p.1 : Int)), .sc (.int .u16 (p.2 : Int))] := by rw [hA, getD_pc ck, ← hp]; rfl
   have htk : (P.take (k + 1)).flatMap (pcB l d) = (P.take k).flatMap (pcB l d) ++ pcB l d p := by
     rw [snocD (d := (0, 0)) ck, ← hp, List.flatMap_append]; simp
   have hpl := pcB_len ol od l1 d1 ho
   obtain ⟨Y, hY⟩ : ∃ Y, Y = X ++ symB l (litS p) := ⟨_, rfl⟩
   have hYl : Y.length ≤ X.length + 39 := by
     rw [hY, List.length_append]; have := symB_len ol (lit_ok l1 ho); omega
   have hY2 : ∀ y ∈ Y, y < 2 := fun y hy => by rw [hY] at hy; exact (List.mem_append.1 hy).elim (hX2 y) (symB_lt y)
   have p1 := packer_symbol_h X (by omega) hX2 false l ol (litS p) (lit_ok l1 ho) X.length ((X.length + 7) / 8) rfl rfl Y.length (by rw [hY])
   rw [← hY, cdA, ← hC] at p1
   have lc := literal_c p ho
   rw [pcA] at lc
   have ir := isRun_c p
   rw [pcA] at ir
   have hrS : ∀ ρ, ren ρ (syA (litS p)) = syA (litS p) := fun ρ => rfl
   obtain ⟨S, hS⟩ : ∃ S, S = syA (litS p) := ⟨_, rfl⟩
   rw [← hS] at p1 lc hrS
   repeat (first | refine zR (ja3 @dk @hAl @hg) ?_ | exact zU (ja3 @dk @hAl @hg))
   refine goC_p _ (.inl ⟨rfl, lc⟩) ?_
   repeat (first | refine zS ?_ | exact zT)
   refine goC_h [(1000, 0), (1001, g)] 2000 p1 (by simp) (by simp) ?_ ?_ ?_
   iterate 2 (case _ => (first | exact yU (ja3 @wrR.eq_1 iR @hrS) | refine yR (ja3 @wrR.eq_1 iR @hrS) ?_))
   by_cases c0 : 0 < p.2
   · have e0 : decide (0 < p.2) = true := decide_eq_true c0
     rw [e0] at ir
     obtain ⟨Z, hZ⟩ : ∃ Z, Z = Y ++ symB d (dstS p) := ⟨_, rfl⟩
     have hZl : Z.length = X.length + (pcB l d p).length := by rw [hZ, hY, pcB, if_pos c0]; simp [Nat.add_assoc]
     have p2 := packer_symbol_h Y (by omega) hY2 false d od (dstS p) (dst_ok d1 ho c0) Y.length ((Y.length + 7) / 8) rfl rfl Z.length (by rw [hZ])
     rw [← hZ, cdA, ← hD] at p2
     have dc := distance_c p c0 (by have := ho; simp only [pcOk] at this; omega)
     rw [pcA] at dc
     have hrS2 : ∀ ρ, ren ρ (syA (dstS p)) = syA (dstS p) := fun ρ => rfl
     obtain ⟨S2, hS2⟩ : ∃ S2, S2 = syA (dstS p) := ⟨_, rfl⟩
     rw [← hS2] at p2 dc hrS2
     repeat (first | refine zR (ja2 @wrR.eq_1 iR) ?_ | exact zU (ja2 @wrR.eq_1 iR))
     refine goC_p _ (.inl ⟨rfl, ir⟩) ?_
     repeat (first | refine zR (ja2 @wrR.eq_1 iR) ?_ | exact zU (ja2 @wrR.eq_1 iR))
     refine goC_p _ (.inl ⟨rfl, dc⟩) ?_
     repeat (first | refine zR (ja2 @wrR.eq_1 iR) ?_ | exact zU (ja2 @wrR.eq_1 iR))
     refine goC_h [(1000, 0), (1001, gc + 1 + 125)] 3000 p2 (by simp) (by simp) ?_ ?_ ?_
     iterate 2 (case _ => (first | exact yU (ja3 @wrR.eq_1 iR @hrS2) | refine yR (ja3 @wrR.eq_1 iR @hrS2) ?_))
     repeat (first | refine zR (ja2 @wrR.eq_1 iR) ?_ | exact zU (ja2 @wrR.eq_1 iR))
     refine At.of (k + 1, Z, gc + 1 + 126 + 125, gc + 1 + 126 + 126) ⟨by simp only; omega, by simp only; rw [hZ, hY, htk, hX, pcB, if_pos c0]; simp [List.append_assoc], fun y hy => by simp only at hy; rw [hZ] at hy; exact (List.mem_append.1 hy).elim (hY2 y) (symB_lt y), by simp only; omega, by simp only; omega⟩ (by simp only; omega) rfl rfl (Nat.le_refl _) ?_ ?_
     iterate 2 (case _ => (first | exact yU @wrR.eq_1 | refine yR @wrR.eq_1 ?_))
   · have e0 : decide (0 < p.2) = false := decide_eq_false c0
     rw [e0] at ir
     repeat (first | refine zR (ja2 @wrR.eq_1 iR) ?_ | exact zU (ja2 @wrR.eq_1 iR))
     refine goC_p _ (.inl ⟨rfl, ir⟩) ?_
     repeat (first | refine zR (ja2 @wrR.eq_1 iR) ?_ | exact zU (ja2 @wrR.eq_1 iR))
     refine At.of (k + 1, Y, gc + 1 + 125, gc + 1 + 126) ⟨by simp only; omega, by simp only; rw [hY, htk, hX, pcB, if_neg c0]; simp [List.append_assoc], hY2, by simp only; omega, by simp only; omega⟩ (by simp only; omega) rfl rfl (Nat.le_refl _) ?_ ?_
     iterate 2 (case _ => (first | exact yU @wrR.eq_1 | refine yR @wrR.eq_1 ?_))
 · have dk : decide ((k : Int) < (P.length : Int)) = false := decide_eq_false (by omega)
   rw [List.take_of_length_le (by omega)] at hX
   obtain ⟨Y, hY⟩ : ∃ Y, Y = X ++ symB l (256, 0, 0) := ⟨_, rfl⟩
   have hYe : L ++ pcsB l d P = Y := by rw [hY, hX, pcsB]; simp [List.append_assoc]
   have p1 := packer_symbol_h X (by omega) hX2 false l ol (256, 0, 0) (end_ok l1) X.length ((X.length + 7) / 8) rfl rfl Y.length (by rw [hY])
   rw [← hY, cdA, ← hC] at p1
   have hsy : syA (256, 0, 0) = .agg [.sc (.int .i64 256), .sc (.int .i64 0), .sc (.int .i64 0)] := rfl
   rw [hsy] at p1
   rw [hYe] at hj ⊢
   rw [hj]
   have hKE := KE_eq
   obtain ⟨z, hz⟩ : ∃ z, KE + 1 = z + 125 := ⟨KE - 124, by omega⟩
   have hz2 : KE + 2 = z + 126 := by omega
   rw [hz, hz2]
   iterate 5 (first | refine zR @dk ?_ | exact zU @dk)
   refine SWp.le (le_mk (N := 34) (gc := z) (l := [(3, .op 3 1 0), (5, .op 5 2 0)]) (h := [(1000, 0, .row false (wrR g ((X.length + 7) / 8) X.length)), (1001, g, .row (nl0 ((X.length + 7) / 8)) ((bytesB X).map u8)), (3, 1, .row false [.op 1000 0 0]), (5, 2, .row false [.sl false none (l.map nA), .sl false none (C.map nA), .sl false none (d.map nA), .sl false none (D.map nA)])]) rfl ?_ ?_ ?_) ?_
   · show gc ≤ z
     omega
   iterate 2 (case _ => (first | exact yT | refine yS ?_))
   repeat (first | refine zS ?_ | exact zT)
   refine goC_h [(1000, 0), (1001, g)] 2000 p1 (by simp) (by simp) ?_ ?_ ?_
   iterate 2 (case _ => (first | exact yU (ja2 @wrR.eq_1 iR) | refine yR (ja2 @wrR.eq_1 iR) ?_))
   repeat (first | refine zR (ja2 @wrR.eq_1 iR) ?_ | exact zU (ja2 @wrR.eq_1 iR))
end Go.Proofs.YtbcncdpaigljeaaGreatDoor.Aw
namespace Go.Proofs.YtbcncdpaigljeaaGreatDoor.Aw
open Go
set_option linter.unusedSimpArgs false
set_option linter.unusedVariables false
theorem numB_dig (v : Nat) : ∀ (n : Nat), numB (digB v n) = v % 2 ^ n
 | 0 => by simp [digB, numB, Nat.mod_one]
 | n + 1 => by
   have e : digB v (n + 1) = digB v n ++ [v / 2 ^ n % 2] := by simp [digB, List.range_succ]
   rw [e, numB_append, numB_dig v n, length_digB]
   simp only [numB, Nat.mul_zero, Nat.add_zero]
   rw [Nat.pow_succ, Nat.mod_mul]
theorem numB_byte {c : UInt8} : numB (bitsB c) = c.toNat := by
 have := numB_dig c.toNat 8
 rw [Nat.mod_eq_of_lt (by have := c.toNat_lt; omega)] at this
 exact this
theorem drop_bits {X : List UInt8} : ∀ (k : Nat), (bitsL X).drop (8 * k) = bitsL (X.drop k) := by
 intro k
 have e : bitsL X = bitsL (X.take k) ++ bitsL (X.drop k) := by rw [← bitsL_append, List.take_append_drop]
 rw [e]
 by_cases h : k ≤ X.length
 · rw [List.drop_append_of_le_length (by rw [length_bitsL, List.length_take]; omega)]
   rw [List.drop_of_length_le (by rw [length_bitsL, List.length_take]; omega)]
   rfl
 · rw [List.drop_of_length_le (i := k) (by omega)]
   simp only [bitsL, List.flatMap_nil, List.append_nil]
   exact List.drop_of_length_le (by have := length_bitsL (l := X.take k); simp only [bitsL] at this; rw [this, List.length_take]; omega)
theorem bytes_bits {X : List UInt8} : bytesB (bitsL X) = X := by
 refine List.ext_getElem (by rw [length_bytesB, length_bitsL]; omega) fun k h1 h2 => ?_
 rw [length_bytesB, length_bitsL] at h1
 simp only [bytesB, List.getElem_map, List.getElem_range, byteAt]
 rw [drop_bits, List.drop_eq_getElem_cons h2]
 have : (bitsL (X[k] :: X.drop (k + 1))).take 8 = bitsB X[k] := by
   simp only [bitsL, List.flatMap_cons]
   rw [List.take_append_of_le_length (by rw [length_bitsB]; omega), List.take_of_length_le (by rw [length_bitsB]; omega)]
 rw [this, numB_byte]
 exact UInt8.ofNat_toNat
def padB (L : List Nat) : List Nat := L ++ List.replicate (8 * ((L.length + 7) / 8) - L.length) 0
theorem length_padB {L : List Nat} : (padB L).length = 8 * ((L.length + 7) / 8) := by rw [padB, List.length_append, List.length_replicate]; omega
theorem numB_zeros : ∀ (n : Nat), numB (List.replicate n 0) = 0
 | 0 => rfl
 | n + 1 => by rw [List.replicate_succ, numB, numB_zeros n]
theorem bytes_pad {L : List Nat} : bytesB (padB L) = bytesB L := by
 have hl : ((padB L).length + 7) / 8 = (L.length + 7) / 8 := by rw [length_padB]; omega
 unfold bytesB
 rw [hl]
 refine List.map_congr_left fun k hk => ?_
 have hk := List.mem_range.1 hk
 by_cases h : 8 * k + 8 ≤ L.length
 · exact byteAt_append h
 · unfold byteAt padB
   have e : 8 * ((L.length + 7) / 8) - L.length = 8 * k + 8 - L.length := by omega
   rw [List.drop_append_of_le_length (by omega), e, List.take_of_length_le (by rw [List.length_append, List.length_drop, List.length_replicate]; omega), List.take_of_length_le (by rw [List.length_drop]; omega), numB_append, numB_zeros]
   simp
theorem huff_WAlign_h [Tabs Tryz.prog] (B : List UInt8) (hB : B.length ≤ 2000000) (i m : Nat) (hm : m = B.length) :
   HCon Tryz.prog n_huff_Writer_Align [.op 1000 0 0] [.row false (wrR 0 m i), .row (nl0 m) (B.map u8)] (.tup [])
     [(1000, 0, .row false (wrR 0 m (8 * m))), (1001, 0, .row (nl0 m) (B.map u8))] 1 := by
 refine HCon.of' mix Tryz.func79 rfl Tryz.ntmps79 e_huff_Writer_Align r_huff_Writer_Align (by simp) (by simp [AV.gl, AV.gl.glL]) wr_gl ?_
 unfold s_huff_Writer_Align
 have e : (m : Int) * 8 = ((8 * m : Nat) : Int) := by omega
 repeat (first | refine xR (ja3 @wrR.eq_1 iR @e) ?_ | exact xU (ja3 @wrR.eq_1 iR @e))
theorem nl0_addB {a : Nat} {y : List UInt8} : (nl0 a && (y.map u8).isEmpty) = nl0 (a + y.length) := by
 cases y with
 | nil => simp
 | cons c y => simp [nl0]
set_option maxRecDepth 100000 in
theorem huff_WRaw_h [Tabs Tryz.prog] (X : List UInt8) (hX : X.length ≤ 1000000) (nl : Bool) (b : List UInt8) (hb : b.length ≤ 1000000) (i m : Nat) (hm : m = X.length) :
   HCon Tryz.prog n_huff_Writer_Raw [.op 1000 0 0, .sl nl none (b.map u8)] [.row false (wrR 0 m i), .row (nl0 m) (X.map u8)] (.tup [])
     [(1000, 0, .row false (wrR 1 (m + b.length) (8 * (m + b.length)))), (1001, 1, .row (nl0 (m + b.length)) ((X ++ b).map u8))] 3 := by
 refine HCon.of' mix Tryz.func81 rfl Tryz.ntmps81 e_huff_Writer_Raw r_huff_Writer_Raw (by simp) (by simp only [AV.gl, AV.gl.glL, and_true]; exact ⟨by omega, glL_of_free _ _ free_u8⟩) wr_gl ?_
 unfold s_huff_Writer_Raw
 have hadd := nl0_addB (a := m) (y := b)
 obtain ⟨B, hB⟩ : ∃ B, B = X ++ b := ⟨_, rfl⟩
 have hBl : B.length = m + b.length := by rw [hB, List.length_append, hm]
 have hrow : X.map u8 ++ b.map u8 = B.map u8 := by rw [hB, List.map_append]
 have al := huff_WAlign_h B (by omega) i (m + b.length) (by omega)
 rw [← hB]
 repeat (first | refine xR (ja3 @wrR.eq_1 @hadd @hrow) ?_ | exact xU (ja3 @wrR.eq_1 @hadd @hrow))
 refine goC_h [(1000, 0), (1001, 1)] 2000 al (by simp) (by simp) ?_ ?_ ?_
 iterate 2 (case _ => (first | exact vU (ja2 @wrR.eq_1 iR) | refine vR (ja2 @wrR.eq_1 iR) ?_))
 repeat (first | refine xR (ja2 @wrR.eq_1 iR) ?_ | exact xU (ja2 @wrR.eq_1 iR))
end Go.Proofs.YtbcncdpaigljeaaGreatDoor.Aw
