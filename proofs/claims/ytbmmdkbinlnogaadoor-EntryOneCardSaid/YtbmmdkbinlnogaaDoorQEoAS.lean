/- Parts of the proofs of Eo. -/
import Derived.Test.YtbmmdkbinlnogaaDoorQEoAR
namespace Go.Proofs.YtbmmdkbinlnogaaDoor.Aw
open Go
set_option linter.unusedSimpArgs false
set_option linter.unusedVariables false
def looseAt (ops : Array Oper) (sl : List SOper) (h u : Nat) : Bool :=
  decide (u < h) && (match sl[u]? with
    | some ⟨some _, .load _ x, none⟩ => (tmpsOf [x]).all fun t => (List.range sl.length).all fun j => (sl[j]?).bind (·.dst) != some t || decide (j < u)
    | _ => false) && (match sl[h]? with
    | some s => s.op.isHv
    | none => false) && !reach ops deep u h && !reach ops deep h u
def looseOk (ops : Array Oper) (sl : List SOper) (h : Nat) : Bool :=
  let n := sl.length
  let d (i : Nat) : Option Nat := (sl[i]?).bind (·.dst)
  (List.range n).all (fun i => (binders ops i).all (· < i)) &&
  (List.range n).all (fun i => (List.range n).all fun j => i == j || (d i).isNone || d i != d j) &&
  (sl.zipIdx.all fun (s, i) => s.reads.all fun t => (List.range n).all fun j => d j != some t || (j != i && (reach ops deep j i || reach ops deep i j))) &&
  (sl.zipIdx.all fun (s, i) => !s.op.isHv || sl.zipIdx.all fun (u, j) => i == j || !(u.op.isHv || u.op.touches) || reach ops deep i j || reach ops deep j i || (i == h && looseAt ops sl h j))
def chks (ops : Array Oper) (sl : List SOper) (h : Nat) : List (Option Nat × Operand × Nat) :=
  (List.range sl.length).filterMap fun u => if looseAt ops sl h u then (match sl[u]? with
    | some ⟨some d, .load sz x, _⟩ => some (sz, x, d)
    | _ => none) else none
def Chks (P : Program) [Tabs P] : List (Option Nat × Operand × Nat) → ASt → Prop
  | [], _ => True
  | (sz, x, d) :: r, st => ((aLoad sz (ev P st x) st.hp).1 ∧ (aLoad sz (ev P st x) st.hp).2 = st.tm d) ∧ Chks P r st
def findLoose (ops : Array Oper) (sl : List SOper) : Option Nat := (List.range sl.length).find? (looseOk ops sl)
section
variable {P : Program} [Tabs P] {ops : Array Oper} {sl : List SOper} {w0 : World} {M : Nat → Prop} {Z : Beg} {G : Gh} {st : ASt} {a : Act} {w : World}
theorem Chks_nil : Chks P [] st = True := rfl
theorem Chks_cons {sz : Option Nat} {x : Operand} {d : Nat} {r : List (Option Nat × Operand × Nat)} : Chks P ((sz, x, d) :: r) st = (((aLoad sz (ev P st x) st.hp).1 ∧ (aLoad sz (ev P st x) st.hp).2 = st.tm d) ∧ Chks P r st) := rfl
theorem Chks_mem : ∀ {l : List (Option Nat × Operand × Nat)} {sz : Option Nat} {x : Operand} {d : Nat}, Chks P l st → (sz, x, d) ∈ l → (aLoad sz (ev P st x) st.hp).1 ∧ (aLoad sz (ev P st x) st.hp).2 = st.tm d
  | (sz', x', d') :: r, sz, x, d, h, hm => by
    rcases List.mem_cons.1 hm with e | hm
    · cases e; exact h.1
    · exact Chks_mem h.2 hm
theorem looseAt_lt {h u : Nat} (hl : looseAt ops sl h u = true) : u < h := by
  simp only [looseAt, Bool.and_eq_true, decide_eq_true_eq] at hl
  exact hl.1.1.1.1
theorem looseAt_spec {h u : Nat} (hl : looseAt ops sl h u = true) : u < h ∧ ∃ d sz x, sl[u]? = some ⟨some d, .load sz x, none⟩ ∧ (∀ t ∈ tmpsOf [x], ∀ (j : Nat) (v : SOper), sl[j]? = some v → v.dst = some t → j < u) ∧
    ∃ s, sl[h]? = some s ∧ s.op.isHv = true ∧ reach ops deep u h = false ∧ reach ops deep h u = false := by
  simp only [looseAt, Bool.and_eq_true, decide_eq_true_eq, Bool.not_eq_true'] at hl
  obtain ⟨⟨⟨⟨h1, h2⟩, h3⟩, h4⟩, h5⟩ := hl
  refine ⟨h1, ?_⟩
  split at h2
  · rename_i d sz x hs
    refine ⟨d, sz, x, hs, ?_, ?_⟩
    · intro t ht j v hj hv
      have := List.all_eq_true.1 (List.all_eq_true.1 h2 t ht) j (List.mem_range.2 (lt_of_get hj))
      simpa [hj, hv] using this
    · split at h3
      · rename_i s hs
        exact ⟨s, hs, h3, h4, h5⟩
      · simp at h3
  · simp at h2
theorem chks_get {h u d : Nat} {sz : Option Nat} {x : Operand} (hc : Chks P (chks ops sl h) st) (hl : looseAt ops sl h u = true) (hu : sl[u]? = some ⟨some d, .load sz x, none⟩) : (aLoad sz (ev P st x) st.hp).1 ∧ (aLoad sz (ev P st x) st.hp).2 = st.tm d := by
  refine Chks_mem hc ?_
  simp only [chks, List.mem_filterMap]
  refine ⟨u, List.mem_range.2 (lt_of_get hu), ?_⟩
  rw [if_pos hl, hu]
theorem looseOk_spec {h : Nat} (hok : looseOk ops sl h = true) :
    (∀ i, i < sl.length → ∀ k ∈ binders ops i, k < i) ∧
    (∀ (i j : Nat) (o u : SOper) (t : Nat), sl[i]? = some o → sl[j]? = some u → o.dst = some t → u.dst = some t → i = j) ∧
    (∀ (i j : Nat) (o u : SOper) (t : Nat), sl[i]? = some o → sl[j]? = some u → t ∈ o.reads → u.dst = some t → j ≠ i ∧ (reach ops deep j i = true ∨ reach ops deep i j = true)) ∧
    (∀ (i j : Nat) (o u : SOper), sl[i]? = some o → sl[j]? = some u → o.op.isHv = true → i ≠ j → (u.op.isHv = true ∨ u.op.touches = true) → reach ops deep i j = true ∨ reach ops deep j i = true ∨ (i = h ∧ looseAt ops sl h j = true)) := by
  simp only [looseOk, Bool.and_eq_true] at hok
  obtain ⟨⟨⟨h1, h2⟩, h3⟩, h4⟩ := hok
  refine ⟨?_, ?_, ?_, ?_⟩
  · intro i hi k hk
    have := List.all_eq_true.1 h1 i (List.mem_range.2 hi)
    simpa using List.all_eq_true.1 this k hk
  · intro i j o u t hi hj ho hu
    have := List.all_eq_true.1 (List.all_eq_true.1 h2 i (List.mem_range.2 (lt_of_get hi))) j (List.mem_range.2 (lt_of_get hj))
    simpa [hi, hj, ho, hu] using this
  · intro i j o u t hi hj ht hu
    have := List.all_eq_true.1 (List.all_eq_true.1 (List.all_eq_true.1 h3 (o, i) (mem_zipIdx' hi)) t ht) j (List.mem_range.2 (lt_of_get hj))
    simpa [hj, hu] using this
  · intro i j o u hi hj ho hne hu
    have h5 := List.all_eq_true.1 h4 (o, i) (mem_zipIdx' hi)
    simp only [ho, Bool.not_true, Bool.false_or] at h5
    have := List.all_eq_true.1 h5 (u, j) (mem_zipIdx' hj)
    have e1 : (i == j) = false := by simpa using hne
    have e2 : (u.op.isHv || u.op.touches) = true := by simpa using hu
    simp only [e1, e2, Bool.not_true, Bool.false_or, Bool.or_eq_true, Bool.and_eq_true, beq_iff_eq, or_assoc] at this
    exact this
theorem mid_step3 {h : Nat} {f : Nat → ASt} {D : Nat → Prop} {st : ASt} (hok : looseOk ops sl h = true) (hch : Chks P (chks ops sl h) (f (h + 1))) (hf : Runs P sl f) (hm : Mid P ops sl f D st) {i : Nat} {o : SOper} (hi : sl[i]? = some o) (hnd : ¬ D i) (hr : ∀ k ∈ binders ops i, D k) :
    GStep P o (fun s' => Mid P ops sl f (fun k => k = i ∨ D k) s') st := by
  obtain ⟨k1, k2, k3, k4⟩ := looseOk_spec hok
  have hin : i < sl.length := lt_of_get hi
  have htm : ∀ t ∈ o.reads, st.tm t = (f i).tm t := by
    intro t ht
    by_cases hw : ∃ (j : Nat) (u : SOper), sl[j]? = some u ∧ u.dst = some t
    · obtain ⟨j, u, hj, hu⟩ := hw
      have hjn := lt_of_get hj
      obtain ⟨hne, hor⟩ := k3 i j o u t hi hj ht hu
      have huniq : ∀ (m : Nat) (v : SOper), sl[m]? = some v → v.dst = some t → m = j := fun m v hm' hv => k2 m j v u t hm' hj hv hu
      rcases hor with h' | h'
      · -- written ahead of it
        have hDj : D j := reach_done k1 hm.closed deep j i hin hr h'
        have hji := reach_lt k1 deep j i hin h'
        rw [hm.done t j u hj hu hDj]
        have := hf.tm_range (t := t) (m := i) (sl.length - i) (by omega) fun m v h1 h2 h3 hv => by
          have := huniq m v h3 hv; omega
        rw [show i + (sl.length - i) = sl.length from by omega] at this
        exact this
      · -- written behind it
        have hij := reach_lt k1 deep i j hjn h'
        have hDj : ¬ D j := fun hDj => hnd (reach_done k1 hm.closed deep i j hjn (hm.closed j hjn hDj) h')
        rw [hm.ahead t fun m v h1 h2 => by rw [huniq m v h1 h2]; exact hDj]
        have := hf.tm_range (t := t) (m := 0) i (by omega) fun m v h1 h2 h3 hv => by
          have := huniq m v h3 hv; omega
        rw [Nat.zero_add] at this
        exact this.symm
    · have hno : ∀ (m : Nat) (v : SOper), sl[m]? = some v → v.dst = some t → False := fun m v h1 h2 => hw ⟨m, v, h1, h2⟩
      rw [hm.ahead t fun m v h1 h2 => (hno m v h1 h2).elim]
      have := hf.tm_range (t := t) (m := 0) i (by omega) fun m v h1 h2 h3 hv => hno m v h3 hv
      rw [Nat.zero_add] at this
      exact this.symm
  obtain ⟨m, hml, hhp, hgc, hmD⟩ := hm.heap
  have hheap : ¬ (looseAt ops sl h i = true ∧ D h) → (o.op.isHv = true ∨ o.op.touches = true) → st.hp = (f i).hp ∧ st.gc = (f i).gc ∧ ∀ (e : Nat) (u : SOper), sl[e]? = some u → u.op.isHv = true → e ≠ i → (D e ↔ e < i) := by
    intro hnl ht
    have hlt : ∀ (e : Nat) (u : SOper), sl[e]? = some u → u.op.isHv = true → e ≠ i → (D e ↔ e < i) := by
      intro e u he hu hne
      have hen := lt_of_get he
      rcases k4 e i u o he hi hu hne ht with h' | h' | ⟨rfl, h'⟩
      · have := reach_lt k1 deep e i hin h'
        exact ⟨fun _ => this, fun _ => reach_done k1 hm.closed deep e i hin hr h'⟩
      · have := reach_lt k1 deep i e hen h'
        exact ⟨fun hDe => absurd (reach_done k1 hm.closed deep i e hen (hm.closed e hen hDe) h') hnd, fun h => by omega⟩
      · have hie := looseAt_lt h'
        exact ⟨fun hDe => absurd ⟨h', hDe⟩ hnl, fun h => by omega⟩
    have hmf : (f m).hp = (f i).hp ∧ (f m).gc = (f i).gc := by
      by_cases hmi : m ≤ i
      · have := hf.hp_range (m := m) (i - m) (by omega) fun e u h1 h2 h3 => by
          cases hu : u.op.isHv with
          | false => rfl
          | true =>
            have h4 : ¬ D e := fun hd => by have := (hmD e u h3 hu).1 hd; omega
            have h5 := (hlt e u h3 hu (by omega)).2 (by omega)
            exact absurd h5 h4
        rw [show m + (i - m) = i from by omega] at this
        exact ⟨this.1.symm, this.2.symm⟩
      · have := hf.hp_range (m := i) (m - i) (by omega) fun e u h1 h2 h3 => by
          cases hu : u.op.isHv with
          | false => rfl
          | true =>
            have h4 := (hmD e u h3 hu).2 (by omega)
            by_cases he : e = i
            · subst he; exact absurd h4 hnd
            · have h5 := (hlt e u h3 hu he).1 h4
              omega
        rw [show i + (m - i) = m from by omega] at this
        exact this
    exact ⟨hhp.trans hmf.1, hgc.trans hmf.2, hlt⟩
  have hnl : o.op.isHv = true → ¬ (looseAt ops sl h i = true ∧ D h) := fun hq hl => by
    obtain ⟨_, d, sz, x, ho, _⟩ := looseAt_spec hl.1
    rw [hi] at ho
    cases ho
    cases hq
  have hafter : ∀ (s' : ASt), (∀ t, s'.tm t = if o.dst = some t then (f (i + 1)).tm t else st.tm t) → s'.N = st.N → ((o.op.isHv = false ∧ s'.hp = st.hp ∧ s'.gc = st.gc) ∨ (s'.hp = (f (i + 1)).hp ∧ s'.gc = (f (i + 1)).gc ∧ o.op.isHv = true)) → Mid P ops sl f (fun k => k = i ∨ D k) s' := by
    intro s' hs' hN' hh'
    refine ⟨?_, ?_, ?_, ?_, by rw [hN', hm.N]⟩
    · rintro j hj (rfl | hDj) k hk
      · exact .inr (hr k hk)
      · exact .inr (hm.closed j hj hDj k hk)
    · rintro t j u hj hu (rfl | hDj)
      · rw [hi] at hj; cases hj
        rw [hs', if_pos hu]
        have := hf.tm_range (t := t) (m := j + 1) (sl.length - (j + 1)) (by omega) fun m' v h1 h2 h3 hv => by
          have := k2 m' j v o t h3 hi hv hu; omega
        rw [show j + 1 + (sl.length - (j + 1)) = sl.length from by omega] at this
        exact this.symm
      · rw [hs', if_neg (fun e => hnd (by have := k2 i j o u t hi hj e hu; subst this; exact hDj))]
        exact hm.done t j u hj hu hDj
    · intro t ht
      rw [hs', if_neg (fun e => ht i o hi e (.inl rfl))]
      exact hm.ahead t fun j u h1 h2 h3 => ht j u h1 h2 (.inr h3)
    · rcases hh' with ⟨hq, h1, h2⟩ | ⟨h1, h2, hq⟩
      · refine ⟨m, hml, h1.trans hhp, h2.trans hgc, fun e u he hu => ?_⟩
        have hne : e ≠ i := fun e' => by subst e'; rw [hi] at he; cases he; rw [hq] at hu; exact absurd hu (by simp)
        constructor
        · rintro (rfl | h)
          · exact absurd rfl hne
          · exact (hmD e u he hu).1 h
        · intro h; exact .inr ((hmD e u he hu).2 h)
      · obtain ⟨_, _, hlt⟩ := hheap (hnl hq) (.inl hq)
        refine ⟨i + 1, by omega, h1, h2, fun e u he hu => ?_⟩
        constructor
        · rintro (rfl | h)
          · omega
          · by_cases he' : e = i
            · omega
            · have := (hlt e u he hu he').1 h; omega
        · intro h
          by_cases he' : e = i
          · exact .inl he'
          · exact .inr ((hlt e u he hu he').2 (by omega))
  by_cases hlo : looseAt ops sl h i = true ∧ D h
  · obtain ⟨hl, hDh⟩ := hlo
    obtain ⟨hih, d, sz, x, ho, hxs, sh, hsh, hshv, hno1, hno2⟩ := looseAt_spec hl
    rw [hi] at ho
    cases ho
    have hhl := lt_of_get hsh
    have hhm : h < m := (hmD h sh hsh hshv).1 hDh
    have hrange := hf.hp_range (m := h + 1) (m - (h + 1)) (by omega) fun e u h1 h2 h3 => by
      cases hu : u.op.isHv with
      | false => rfl
      | true =>
        have hDe := (hmD e u h3 hu).2 (by omega)
        have hen := lt_of_get h3
        rcases k4 e i u _ h3 hi hu (by omega) (.inr rfl) with h' | h' | ⟨rfl, _⟩
        · have := reach_lt k1 deep e i hin h'; omega
        · exact absurd (reach_done k1 hm.closed deep i e hen (hm.closed e hen hDe) h') hnd
        · omega
    rw [show h + 1 + (m - (h + 1)) = m from by omega] at hrange
    have hxe : ev P st x = ev P (f (h + 1)) x := by
      refine ev_congr (l := [x]) (fun t ht => ?_) x (by simp)
      rw [htm t (by simp only [SOper.reads, SOp.ops, List.mem_append]; exact .inl ht)]
      have := hf.tm_range (t := t) (m := i) (h + 1 - i) (by omega) fun e u h1 h2 h3 hv => by
        have := hxs t ht e u h3 hv
        omega
      rw [show i + (h + 1 - i) = h + 1 from by omega] at this
      exact this.symm
    have hc := chks_get hch hl hi
    have hfd : (f (h + 1)).tm d = (f (i + 1)).tm d := by
      have := hf.tm_range (t := d) (m := i + 1) (h - i) (by omega) fun e u h1 h2 h3 hv => by
        have := k2 e i u _ d h3 hi hv rfl; omega
      rw [show i + 1 + (h - i) = h + 1 from by omega] at this
      exact this
    show AStep P (.load sz x) (some d) st _
    simp only [AStep]
    rw [show pv (.load sz x) (ev P st) st.hp = aLoad sz (ev P st x) st.hp from rfl, hxe, hhp, hrange.1]
    refine ⟨hc.1, hafter _ ?_ (sput_N _ _ _) (.inl ⟨rfl, sput_hp _ _ _, sput_gc _ _ _⟩)⟩
    intro t
    rw [sput_get]
    by_cases e : d = t
    · subst e
      rw [if_pos rfl, if_pos rfl, hc.2, hfd]
    · rw [if_neg (fun h' => e (by simpa using h')), if_neg (fun h' => e (by simpa using h'))]
  have hheap := hheap hlo
  have hrel : ARel P o.op o.dst (f i) (f (i + 1)) → AStep P o.op o.dst st (fun s' => Mid P ops sl f (fun k => k = i ∨ D k) s') := by
    rintro ⟨r, hp', gc', hval, hfi⟩
    have hev : ∀ x ∈ o.op.ops, ev P (f i) x = ev P st x := ev_congr fun t ht => (htm t (by simp [SOper.reads, ht])).symm
    rcases hval.congr hev (fun ht => (hheap (.inr ht)).1.symm) (fun ht => ⟨(hheap (.inl ht)).1.symm, (hheap (.inl ht)).2.1.symm⟩) with ⟨hq, hv'⟩ | ⟨hq, e1, e2, hv'⟩
    · refine ARel.step ⟨r, hp', gc', hv', rfl⟩ (hafter _ ?_ (sput_N _ _ _) (.inr ?_))
      · intro t
        rw [sput_get, hfi, sput_get]
        split <;> rfl
      · rw [sput_hp, sput_gc, hfi, sput_hp, sput_gc]
        exact ⟨rfl, rfl, hq⟩
    · refine ARel.step ⟨r, _, _, hv', rfl⟩ (hafter _ ?_ (sput_N _ _ _) (.inl ?_))
      · intro t
        rw [sput_get, hfi, sput_get]
        split <;> rfl
      · rw [sput_hp, sput_gc]; exact ⟨hq, rfl, rfl⟩
  have hri := hf i o hi
  unfold GRel at hri
  unfold GStep
  split at hri
  · rename_i hg
    rw [hg]
    exact hrel hri
  · rename_i g want hg
    rw [hg]
    obtain ⟨b, hb, h1, h2⟩ := hri
    have hgr : gIs (st.tm g) want b := by
      rw [htm g (by simp [SOper.reads, hg])]; exact hb
    refine ⟨b, hgr, fun e => hrel (h1 e), fun e => ?_⟩
    have hfi := h2 e
    cases hq : o.op.isHv with
    | false =>
      refine hafter _ ?_ (sput_N _ _ _) (.inl ?_)
      · intro t
        rw [sput_get, hfi, sput_get]
        split <;> rfl
      · rw [sput_hp, sput_gc]; exact ⟨hq, rfl, rfl⟩
    | true =>
      refine hafter _ ?_ (sput_N _ _ _) (.inr ?_)
      · intro t
        rw [sput_get, hfi, sput_get]
        split <;> rfl
      · obtain ⟨e1, e2, _⟩ := hheap (.inl hq)
        rw [sput_hp, sput_gc, hfi, sput_hp, sput_gc]
        exact ⟨e1, e2, hq⟩
theorem AOps_runs3 {x y : List SOper} {K : ASt → Prop} {C : ASt → Prop} (h : AOps P x (fun s => C s ∧ AOps P y K s) st) : ∃ f, f 0 = st ∧ C (f x.length) ∧ K (f (x ++ y).length) ∧ Runs P (x ++ y) f := by
  obtain ⟨f, hf0, ⟨hC, hy⟩, hf⟩ := h.runs
  obtain ⟨g, hg0, hK, hg⟩ := hy.runs
  refine ⟨fun i => if i ≤ x.length then f i else g (i - x.length), by simp only [if_pos (Nat.zero_le _), hf0], by simp only [if_pos (Nat.le_refl _)]; exact hC, ?_, ?_⟩
  · rw [List.length_append]
    simp only
    split
    · rename_i h'
      have : y.length = 0 := by omega
      rw [this, hg0] at hK
      rw [this, Nat.add_zero]
      exact hK
    · rw [show x.length + y.length - x.length = y.length by omega]; exact hK
  · intro i o hi
    by_cases hix : i < x.length
    · rw [List.getElem?_append_left hix] at hi
      have := hf i o hi
      simp only
      rw [if_pos (by omega), if_pos (by omega)]
      exact this
    · rw [List.getElem?_append_right (by omega)] at hi
      have := hg (i - x.length) o hi
      simp only
      by_cases e : i = x.length
      · subst e
        rw [if_pos (Nat.le_refl _), if_neg (by omega), ← hg0]
        rw [Nat.sub_self] at this
        rw [show x.length + 1 - x.length = 0 + 1 by omega]
        exact this
      · rw [if_neg (by omega), if_neg (by omega), show i + 1 - x.length = i - x.length + 1 by omega]
        exact this
theorem draw3_sound {q : Bool} {h : Nat} {K : ASt → Prop} {Q : Exit → Act → World → Prop} {id N : Nat} (hmix : P.follows .mixedOrders = true) (hQ : ¬ LetsOut Q) (hsl : ops.toList.mapM (slimO P N q ops) = some sl) (hok : looseOk ops sl h = true) (hh : h < sl.length)
    (hK : ∀ st G a w, K st → R P w0 M Z G st a w → Q .normal a w) (hN : st.N = N) (hR : R P w0 M Z G st a w) (hA : AOps P (sl.take (h + 1)) (fun s => Chks P (chks ops sl h) s ∧ AOps P (sl.drop (h + 1)) K s) st) : wpR P (Code.region id ops true) Q a w := by
  obtain ⟨hlen, hget⟩ := mapM_get hsl
  obtain ⟨k1, k2, k3, k4⟩ := looseOk_spec hok
  obtain ⟨f, hf0, hC, hKf, hf⟩ := AOps_runs3 hA
  rw [List.take_append_drop] at hKf hf
  rw [List.length_take, Nat.min_eq_left (by omega)] at hC
  refine wpR_region_any hmix hQ ?_
  have hR' : R P w0 M Z G st a { w with drawn := w.drawn + 1 } := hR.heapEq rfl rfl rfl rfl
  refine any_inv (fun D a w => ∃ st G, Mid P ops sl f D st ∧ R P w0 M Z G st a w) (fun i hi => k1 i (by omega)) ?_ ?_ ?_ ops.size (Array.replicate ops.size false) a _ (by simp) (by
    exact Nat.le_trans (List.length_filter_le _ _) (by simp)) ?_
  · rintro D D' a w hDD ⟨st, G, hm, hR⟩
    exact ⟨st, G, hm.congr k1 (fun k hk => hDD k (by omega)), hR⟩
  · rintro D a w i o ho ⟨st', G', hm, hR2⟩ hnd hr
    obtain ⟨s, hs, hso⟩ := hget i o ho
    have hstep := mid_step3 hok hC hf hm hs hnd hr
    have hstN : st'.N = N := by
      have := hm.N
      rw [hf0, hN] at this
      exact this
    exact gstep_sound (Q := Q) ho (by rw [hstN]; exact hso) hR2 hstep
  · rintro D a w hall ⟨st', G', hm, hR2⟩
    have := mid_end hf hm fun i hi => hall i (by omega)
    subst this
    exact hK _ G' a w hKf hR2
  · refine ⟨st, G, ?_, hR'⟩
    rw [← hf0]
    refine mid_start _ fun i => ?_
    rw [Array.getD_eq_getD_getElem?, Array.getElem?_replicate]
    split <;> simp
end
end Go.Proofs.YtbmmdkbinlnogaaDoor.Aw
