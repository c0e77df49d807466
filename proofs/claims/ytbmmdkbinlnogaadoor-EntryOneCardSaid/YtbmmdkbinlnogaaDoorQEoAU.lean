/- Parts of the proofs of Eo. -/
import Derived.Test.YtbmmdkbinlnogaaDoorQEoAT
namespace Go.Proofs.YtbmmdkbinlnogaaDoor.Aw
open Go
set_option linter.unusedSimpArgs false
set_option linter.unusedVariables false
def lateOk (ops : Array Oper) (sl : List SOper) (h u : Nat) : Bool :=
  let n := sl.length
  let d (i : Nat) : Option Nat := (sl[i]?).bind (·.dst)
  (decide (h < u) && (match sl[h]? with
    | some s => s.op.isHv
    | none => false)) &&
  (List.range n).all (fun i => (binders ops i).all (· < i)) &&
  (List.range n).all (fun i => (List.range n).all fun j => i == j || (d i).isNone || d i != d j) &&
  (sl.zipIdx.all fun (s, i) => s.reads.all fun t => (List.range n).all fun j => d j != some t || (j != i && (reach ops deep j i || reach ops deep i j))) &&
  (sl.zipIdx.all fun (s, i) => !s.op.isHv || sl.zipIdx.all fun (v, j) => i == j || !(v.op.isHv || v.op.touches) || reach ops deep i j || reach ops deep j i || (i == h && j == u))
def appTo (sl : List SOper) (h : Nat) : Bool :=
  match (sl[h]?).bind (·.dst) with
  | some t => sl.any fun s => match s.op with
    | .app _ _ (.tmp t') _ => t' == t
    | _ => false
  | none => false
def mixL (ops : Array Oper) (sl sl' : List SOper) (h : Nat) : List SOper := (sl.zip sl').zipIdx.map fun p => if p.2 == h || keepS ops sl p.2 p.1.1 then p.1.1 else p.1.2
def lates (ops : Array Oper) (sl sl' : List SOper) : List (Nat × Nat × Option Nat × Operand × Nat) :=
  (List.range sl.length).flatMap fun h => if appTo sl h then (List.range sl.length).filterMap fun (u : Nat) =>
    match ((mixL ops sl sl' h)[u]? : Option SOper) with
    | some ⟨some d, .load sz x, none⟩ => if lateOk ops (mixL ops sl sl' h) h u then some (h, u, sz, x, d) else none
    | _ => none
  else []
def ChkH (P : Program) [Tabs P] (sz : Option Nat) (x : Operand) (d : Nat) (hp : Hp) (s : ASt) : Prop := (aLoad sz (ev P s x) hp).1 ∧ (aLoad sz (ev P s x) hp).2 = s.tm d
section
variable {P : Program} [Tabs P] {ops : Array Oper} {sl : List SOper} {w0 : World} {M : Nat → Prop} {Z : Beg} {G : Gh} {st : ASt} {a : Act} {w : World}
omit [Tabs P] in
theorem fits_mixL {ops : Array Oper} {sl sl' : List SOper} {N h : Nat} (hs : ops.toList.mapM (slimO P N false ops) = some sl) (hs' : ops.toList.mapM (slimO P N true ops) = some sl') : Fits P N ops (mixL ops sl sl' h) := by
  have g := mapM_get hs
  have g' := mapM_get hs'
  refine ⟨by simp [mixL, g.1, g'.1], fun i o hi => ?_⟩
  obtain ⟨s, h1, h2⟩ := g.2 i o hi
  obtain ⟨s', h1', h2'⟩ := g'.2 i o hi
  have hz : (sl.zip sl').zipIdx[i]? = some ((s, s'), i) := by
    rw [List.getElem?_zipIdx, (List.getElem?_zip_eq_some (z := (s, s'))).2 ⟨h1, h1'⟩]; simp
  have hm : (mixL ops sl sl' h)[i]? = some (if i == h || keepS ops sl i s then s else s') := by
    rw [mixL, List.getElem?_map, hz]; rfl
  by_cases c : (i == h || keepS ops sl i s) = true
  · exact ⟨s, false, by rw [hm, if_pos c], h2⟩
  · exact ⟨s', true, by rw [hm, if_neg c], h2'⟩
theorem lates_spec {sl' : List SOper} {h u d : Nat} {sz : Option Nat} {x : Operand} {r : List (Nat × Nat × Option Nat × Operand × Nat)} (hl : lates ops sl sl' = (h, u, sz, x, d) :: r) : lateOk ops (mixL ops sl sl' h) h u = true ∧ (mixL ops sl sl' h)[u]? = some ⟨some d, .load sz x, none⟩ := by
  have hm : (h, u, sz, x, d) ∈ lates ops sl sl' := by rw [hl]; simp
  simp only [lates, List.mem_flatMap] at hm
  obtain ⟨h', _, hm⟩ := hm
  split at hm
  · simp only [List.mem_filterMap] at hm
    obtain ⟨u', _, hm⟩ := hm
    split at hm
    · rename_i d' sz' x' hs
      split at hm
      · rename_i hok
        simp only [Option.some.injEq, Prod.mk.injEq] at hm
        obtain ⟨rfl, rfl, rfl, rfl, rfl⟩ := hm
        exact ⟨hok, hs⟩
      · cases hm
    · cases hm
  · cases hm
theorem lateOk_spec {h u : Nat} (hok : lateOk ops sl h u = true) :
    (h < u ∧ ∃ s, sl[h]? = some s ∧ s.op.isHv = true) ∧
    (∀ i, i < sl.length → ∀ k ∈ binders ops i, k < i) ∧
    (∀ (i j : Nat) (o u : SOper) (t : Nat), sl[i]? = some o → sl[j]? = some u → o.dst = some t → u.dst = some t → i = j) ∧
    (∀ (i j : Nat) (o u : SOper) (t : Nat), sl[i]? = some o → sl[j]? = some u → t ∈ o.reads → u.dst = some t → j ≠ i ∧ (reach ops deep j i = true ∨ reach ops deep i j = true)) ∧
    (∀ (i j : Nat) (o v : SOper), sl[i]? = some o → sl[j]? = some v → o.op.isHv = true → i ≠ j → (v.op.isHv = true ∨ v.op.touches = true) → reach ops deep i j = true ∨ reach ops deep j i = true ∨ (i = h ∧ j = u)) := by
  simp only [lateOk, Bool.and_eq_true, decide_eq_true_eq] at hok
  obtain ⟨⟨⟨⟨⟨h0, h0'⟩, h1⟩, h2⟩, h3⟩, h4⟩ := hok
  refine ⟨⟨h0, ?_⟩, ?_, ?_, ?_, ?_⟩
  · split at h0'
    · rename_i s hs
      exact ⟨s, hs, h0'⟩
    · cases h0'
  · intro i hi k hk
    have := List.all_eq_true.1 h1 i (List.mem_range.2 hi)
    simpa using List.all_eq_true.1 this k hk
  · intro i j o u t hi hj ho hu
    have := List.all_eq_true.1 (List.all_eq_true.1 h2 i (List.mem_range.2 (lt_of_get hi))) j (List.mem_range.2 (lt_of_get hj))
    simpa [hi, hj, ho, hu] using this
  · intro i j o u t hi hj ht hu
    have := List.all_eq_true.1 (List.all_eq_true.1 (List.all_eq_true.1 h3 (o, i) (mem_zipIdx' hi)) t ht) j (List.mem_range.2 (lt_of_get hj))
    simpa [hj, hu] using this
  · intro i j o v hi hj ho hne hu
    have h5 := List.all_eq_true.1 h4 (o, i) (mem_zipIdx' hi)
    simp only [ho, Bool.not_true, Bool.false_or] at h5
    have := List.all_eq_true.1 h5 (v, j) (mem_zipIdx' hj)
    have e1 : (i == j) = false := by simpa using hne
    have e2 : (v.op.isHv || v.op.touches) = true := by simpa using hu
    simp only [e1, e2, Bool.not_true, Bool.false_or, Bool.or_eq_true, Bool.and_eq_true, beq_iff_eq, or_assoc] at this
    exact this
theorem mid_step4 {h u d : Nat} {sz : Option Nat} {x : Operand} {f : Nat → ASt} {D : Nat → Prop} {st : ASt} (hok : lateOk ops sl h u = true) (hu : sl[u]? = some ⟨some d, .load sz x, none⟩) (hch : ChkH P sz x d (f h).hp (f (u + 1))) (hf : Runs P sl f) (hm : Mid P ops sl f D st) {i : Nat} {o : SOper} (hi : sl[i]? = some o) (hnd : ¬ D i) (hr : ∀ k ∈ binders ops i, D k) :
    GStep P o (fun s' => Mid P ops sl f (fun k => k = i ∨ D k) s') st := by
  obtain ⟨⟨hhu, sh, hsh, hshv⟩, k1, k2, k3, k4⟩ := lateOk_spec hok
  have hin : i < sl.length := lt_of_get hi
  have htm : ∀ t ∈ o.reads, st.tm t = (f i).tm t := by
    intro t ht
    by_cases hw : ∃ (j : Nat) (u : SOper), sl[j]? = some u ∧ u.dst = some t
    · obtain ⟨j, u, hj, hu⟩ := hw
      have hjn := lt_of_get hj
      obtain ⟨hne, hor⟩ := k3 i j o u t hi hj ht hu
      have huniq : ∀ (m : Nat) (v : SOper), sl[m]? = some v → v.dst = some t → m = j := fun m v hm' hv => k2 m j v u t hm' hj hv hu
      rcases hor with h' | h'
      · -- written ahead of it
        have hDj : D j := reach_done k1 hm.closed deep j i hin hr h'
        have hji := reach_lt k1 deep j i hin h'
        rw [hm.done t j u hj hu hDj]
        have := hf.tm_range (t := t) (m := i) (sl.length - i) (by omega) fun m v h1 h2 h3 hv => by
          have := huniq m v h3 hv; omega
        rw [show i + (sl.length - i) = sl.length from by omega] at this
        exact this
      · -- written behind it
        have hij := reach_lt k1 deep i j hjn h'
        have hDj : ¬ D j := fun hDj => hnd (reach_done k1 hm.closed deep i j hjn (hm.closed j hjn hDj) h')
        rw [hm.ahead t fun m v h1 h2 => by rw [huniq m v h1 h2]; exact hDj]
        have := hf.tm_range (t := t) (m := 0) i (by omega) fun m v h1 h2 h3 hv => by
          have := huniq m v h3 hv; omega
        rw [Nat.zero_add] at this
        exact this.symm
    · have hno : ∀ (m : Nat) (v : SOper), sl[m]? = some v → v.dst = some t → False := fun m v h1 h2 => hw ⟨m, v, h1, h2⟩
      rw [hm.ahead t fun m v h1 h2 => (hno m v h1 h2).elim]
      have := hf.tm_range (t := t) (m := 0) i (by omega) fun m v h1 h2 h3 hv => hno m v h3 hv
      rw [Nat.zero_add] at this
      exact this.symm
  obtain ⟨m, hml, hhp, hgc, hmD⟩ := hm.heap
  have hheap : ¬ (i = u ∧ ¬ D h) → (o.op.isHv = true ∨ o.op.touches = true) → st.hp = (f i).hp ∧ st.gc = (f i).gc ∧ ∀ (e : Nat) (u : SOper), sl[e]? = some u → u.op.isHv = true → e ≠ i → (D e ↔ e < i) := by
    intro hnl ht
    have hlt : ∀ (e : Nat) (u : SOper), sl[e]? = some u → u.op.isHv = true → e ≠ i → (D e ↔ e < i) := by
      intro e u he hu hne
      have hen := lt_of_get he
      rcases k4 e i u o he hi hu hne ht with h' | h' | ⟨rfl, h'⟩
      · have := reach_lt k1 deep e i hin h'
        exact ⟨fun _ => this, fun _ => reach_done k1 hm.closed deep e i hin hr h'⟩
      · have := reach_lt k1 deep i e hen h'
        exact ⟨fun hDe => absurd (reach_done k1 hm.closed deep i e hen (hm.closed e hen hDe) h') hnd, fun h => by omega⟩
      · have hDe : D e := Classical.byContradiction fun hDe => hnl ⟨h', hDe⟩
        exact ⟨fun _ => by omega, fun _ => hDe⟩
    have hmf : (f m).hp = (f i).hp ∧ (f m).gc = (f i).gc := by
      by_cases hmi : m ≤ i
      · have := hf.hp_range (m := m) (i - m) (by omega) fun e u h1 h2 h3 => by
          cases hu : u.op.isHv with
          | false => rfl
          | true =>
            have h4 : ¬ D e := fun hd => by have := (hmD e u h3 hu).1 hd; omega
            have h5 := (hlt e u h3 hu (by omega)).2 (by omega)
            exact absurd h5 h4
        rw [show m + (i - m) = i from by omega] at this
        exact ⟨this.1.symm, this.2.symm⟩
      · have := hf.hp_range (m := i) (m - i) (by omega) fun e u h1 h2 h3 => by
          cases hu : u.op.isHv with
          | false => rfl
          | true =>
            have h4 := (hmD e u h3 hu).2 (by omega)
            by_cases he : e = i
            · subst he; exact absurd h4 hnd
            · have h5 := (hlt e u h3 hu he).1 h4
              omega
        rw [show i + (m - i) = m from by omega] at this
        exact this
    exact ⟨hhp.trans hmf.1, hgc.trans hmf.2, hlt⟩
  have hnl : o.op.isHv = true → ¬ (i = u ∧ ¬ D h) := fun hq hl => by
    obtain ⟨rfl, _⟩ := hl
    rw [hi] at hu
    cases hu
    cases hq
  have hafter : ∀ (s' : ASt), (∀ t, s'.tm t = if o.dst = some t then (f (i + 1)).tm t else st.tm t) → s'.N = st.N → ((o.op.isHv = false ∧ s'.hp = st.hp ∧ s'.gc = st.gc) ∨ (s'.hp = (f (i + 1)).hp ∧ s'.gc = (f (i + 1)).gc ∧ o.op.isHv = true)) → Mid P ops sl f (fun k => k = i ∨ D k) s' := by
    intro s' hs' hN' hh'
    refine ⟨?_, ?_, ?_, ?_, by rw [hN', hm.N]⟩
    · rintro j hj (rfl | hDj) k hk
      · exact .inr (hr k hk)
      · exact .inr (hm.closed j hj hDj k hk)
    · rintro t j u hj hu (rfl | hDj)
      · rw [hi] at hj; cases hj
        rw [hs', if_pos hu]
        have := hf.tm_range (t := t) (m := j + 1) (sl.length - (j + 1)) (by omega) fun m' v h1 h2 h3 hv => by
          have := k2 m' j v o t h3 hi hv hu; omega
        rw [show j + 1 + (sl.length - (j + 1)) = sl.length from by omega] at this
        exact this.symm
      · rw [hs', if_neg (fun e => hnd (by have := k2 i j o u t hi hj e hu; subst this; exact hDj))]
        exact hm.done t j u hj hu hDj
    · intro t ht
      rw [hs', if_neg (fun e => ht i o hi e (.inl rfl))]
      exact hm.ahead t fun j u h1 h2 h3 => ht j u h1 h2 (.inr h3)
    · rcases hh' with ⟨hq, h1, h2⟩ | ⟨h1, h2, hq⟩
      · refine ⟨m, hml, h1.trans hhp, h2.trans hgc, fun e u he hu => ?_⟩
        have hne : e ≠ i := fun e' => by subst e'; rw [hi] at he; cases he; rw [hq] at hu; exact absurd hu (by simp)
        constructor
        · rintro (rfl | h)
          · exact absurd rfl hne
          · exact (hmD e u he hu).1 h
        · intro h; exact .inr ((hmD e u he hu).2 h)
      · obtain ⟨_, _, hlt⟩ := hheap (hnl hq) (.inl hq)
        refine ⟨i + 1, by omega, h1, h2, fun e u he hu => ?_⟩
        constructor
        · rintro (rfl | h)
          · omega
          · by_cases he' : e = i
            · omega
            · have := (hlt e u he hu he').1 h; omega
        · intro h
          by_cases he' : e = i
          · exact .inl he'
          · exact .inr ((hlt e u he hu he').2 (by omega))
  by_cases hlo : i = u ∧ ¬ D h
  · obtain ⟨rfl, hDh⟩ := hlo
    rw [hi] at hu
    cases hu
    have hmh : m ≤ h := by
      exact Nat.not_lt.1 fun hh => hDh ((hmD h sh hsh hshv).2 hh)
    have hhl := lt_of_get hsh
    have hrange := hf.hp_range (m := m) (h - m) (by omega) fun e v h1 h2 h3 => by
      cases hv : v.op.isHv with
      | false => rfl
      | true =>
        have hDe : ¬ D e := fun hd => by have := (hmD e v h3 hv).1 hd; omega
        rcases k4 e i v _ h3 hi hv (by omega) (.inr rfl) with h' | h' | ⟨rfl, _⟩
        · exact absurd (reach_done k1 hm.closed deep e i hin hr h') hDe
        · have := reach_lt k1 deep i e (by omega) h'; omega
        · omega
    rw [show m + (h - m) = h from by omega] at hrange
    have hxe : ev P st x = ev P (f (i + 1)) x := by
      refine ev_congr (l := [x]) (fun t ht => ?_) x (by simp)
      have htr : t ∈ (⟨some d, .load sz x, none⟩ : SOper).reads := by simp only [SOper.reads, SOp.ops, List.mem_append]; exact .inl ht
      rw [htm t htr]
      have := hf.tm_range (t := t) (m := i) 1 (by omega) fun e v h1 h2 h3 hv => by
        obtain rfl : e = i := by omega
        exact absurd rfl (k3 e e _ v t hi h3 htr hv).1
      exact this.symm
    show AStep P (.load sz x) (some d) st _
    simp only [AStep]
    rw [show pv (.load sz x) (ev P st) st.hp = aLoad sz (ev P st x) st.hp from rfl, hxe, hhp, ← hrange.1]
    refine ⟨hch.1, hafter _ ?_ (sput_N _ _ _) (.inl ⟨rfl, sput_hp _ _ _, sput_gc _ _ _⟩)⟩
    intro t
    rw [sput_get]
    by_cases e : d = t
    · subst e
      rw [if_pos rfl, if_pos rfl, hch.2]
    · rw [if_neg (fun h' => e (by simpa using h')), if_neg (fun h' => e (by simpa using h'))]
  have hheap := hheap hlo
  have hrel : ARel P o.op o.dst (f i) (f (i + 1)) → AStep P o.op o.dst st (fun s' => Mid P ops sl f (fun k => k = i ∨ D k) s') := by
    rintro ⟨r, hp', gc', hval, hfi⟩
    have hev : ∀ x ∈ o.op.ops, ev P (f i) x = ev P st x := ev_congr fun t ht => (htm t (by simp [SOper.reads, ht])).symm
    rcases hval.congr hev (fun ht => (hheap (.inr ht)).1.symm) (fun ht => ⟨(hheap (.inl ht)).1.symm, (hheap (.inl ht)).2.1.symm⟩) with ⟨hq, hv'⟩ | ⟨hq, e1, e2, hv'⟩
    · refine ARel.step ⟨r, hp', gc', hv', rfl⟩ (hafter _ ?_ (sput_N _ _ _) (.inr ?_))
      · intro t
        rw [sput_get, hfi, sput_get]
        split <;> rfl
      · rw [sput_hp, sput_gc, hfi, sput_hp, sput_gc]
        exact ⟨rfl, rfl, hq⟩
    · refine ARel.step ⟨r, _, _, hv', rfl⟩ (hafter _ ?_ (sput_N _ _ _) (.inl ?_))
      · intro t
        rw [sput_get, hfi, sput_get]
        split <;> rfl
      · rw [sput_hp, sput_gc]; exact ⟨hq, rfl, rfl⟩
  have hri := hf i o hi
  unfold GRel at hri
  unfold GStep
  split at hri
  · rename_i hg
    rw [hg]
    exact hrel hri
  · rename_i g want hg
    rw [hg]
    obtain ⟨b, hb, h1, h2⟩ := hri
    have hgr : gIs (st.tm g) want b := by
      rw [htm g (by simp [SOper.reads, hg])]; exact hb
    refine ⟨b, hgr, fun e => hrel (h1 e), fun e => ?_⟩
    have hfi := h2 e
    cases hq : o.op.isHv with
    | false =>
      refine hafter _ ?_ (sput_N _ _ _) (.inl ?_)
      · intro t
        rw [sput_get, hfi, sput_get]
        split <;> rfl
      · rw [sput_hp, sput_gc]; exact ⟨hq, rfl, rfl⟩
    | true =>
      refine hafter _ ?_ (sput_N _ _ _) (.inr ?_)
      · intro t
        rw [sput_get, hfi, sput_get]
        split <;> rfl
      · obtain ⟨e1, e2, _⟩ := hheap (.inl hq)
        rw [sput_hp, sput_gc, hfi, sput_hp, sput_gc]
        exact ⟨e1, e2, hq⟩
theorem runs_glue {x y : List SOper} {f g : Nat → ASt} (hf : Runs P x f) (hg : Runs P y g) (e : g 0 = f x.length) : Runs P (x ++ y) (fun i => if i ≤ x.length then f i else g (i - x.length)) := by
  intro i o hi
  by_cases hix : i < x.length
  · rw [List.getElem?_append_left hix] at hi
    have := hf i o hi
    simp only
    rw [if_pos (by omega), if_pos (by omega)]
    exact this
  · rw [List.getElem?_append_right (by omega)] at hi
    have := hg (i - x.length) o hi
    simp only
    by_cases e' : i = x.length
    · subst e'
      rw [if_pos (Nat.le_refl _), if_neg (by omega), ← e]
      rw [Nat.sub_self] at this
      rw [show x.length + 1 - x.length = 0 + 1 by omega]
      exact this
    · rw [if_neg (by omega), if_neg (by omega), show i + 1 - x.length = i - x.length + 1 by omega]
      exact this
theorem AOps_runs4 {x y z : List SOper} {K : ASt → Prop} {C : ASt → ASt → Prop} (h : AOps P x (fun s0 => AOps P y (fun s => C s0 s ∧ AOps P z K s) s0) st) : ∃ f, f 0 = st ∧ C (f x.length) (f (x.length + y.length)) ∧ K (f (x ++ (y ++ z)).length) ∧ Runs P (x ++ (y ++ z)) f := by
  obtain ⟨f, hf0, hy, hf⟩ := h.runs
  obtain ⟨g, hg0, hC, hK, hg⟩ := AOps_runs3 (C := C (f x.length)) hy
  have hat : ∀ k, (if x.length + k ≤ x.length then f (x.length + k) else g (x.length + k - x.length)) = g k := by
    intro k
    by_cases e : k = 0
    · subst e; rw [if_pos (by omega), Nat.add_zero, hg0]
    · rw [if_neg (by omega), Nat.add_sub_cancel_left]
  refine ⟨_, ?_, ?_, ?_, runs_glue hf hg hg0⟩
  · simp only [if_pos (Nat.zero_le _), hf0]
  · simp only [hat, if_pos (Nat.le_refl _)]; exact hC
  · rw [show (x ++ (y ++ z)).length = x.length + (y ++ z).length from List.length_append]; simp only [hat]; exact hK
theorem draw4_sound {h u d : Nat} {sz : Option Nat} {x : Operand} {K : ASt → Prop} {Q : Exit → Act → World → Prop} {id N : Nat} (hmix : P.follows .mixedOrders = true) (hQ : ¬ LetsOut Q) (hsl : Fits P N ops sl) (hok : lateOk ops sl h u = true) (hu : sl[u]? = some ⟨some d, .load sz x, none⟩)
    (hK : ∀ st G a w, K st → R P w0 M Z G st a w → Q .normal a w) (hN : st.N = N) (hR : R P w0 M Z G st a w) (hA : AOps P (sl.take h) (fun s0 => AOps P ((sl.drop h).take (u + 1 - h)) (fun s => ChkH P sz x d s0.hp s ∧ AOps P (sl.drop (u + 1)) K s) s0) st) : wpR P (Code.region id ops true) Q a w := by
  obtain ⟨hlen, hget⟩ := hsl
  obtain ⟨⟨hhu, sh, hsh, hshv⟩, k1, k2, k3, k4⟩ := lateOk_spec hok
  have hul := lt_of_get hu
  obtain ⟨f, hf0, hC, hKf, hf⟩ := AOps_runs4 hA
  have e1 : sl.take h ++ ((sl.drop h).take (u + 1 - h) ++ sl.drop (u + 1)) = sl := by
    rw [show sl.drop (u + 1) = (sl.drop h).drop (u + 1 - h) by rw [List.drop_drop]; congr 1; omega, List.take_append_drop, List.take_append_drop]
  have e2 : (sl.take h).length = h := by rw [List.length_take]; omega
  have e3 : (sl.take h).length + ((sl.drop h).take (u + 1 - h)).length = u + 1 := by rw [List.length_take, List.length_take, List.length_drop]; omega
  rw [e1] at hKf hf
  rw [e3, e2] at hC
  refine wpR_region_any hmix hQ ?_
  have hR' : R P w0 M Z G st a { w with drawn := w.drawn + 1 } := hR.heapEq rfl rfl rfl rfl
  refine any_inv (fun D a w => ∃ st G, Mid P ops sl f D st ∧ R P w0 M Z G st a w) (fun i hi => k1 i (by omega)) ?_ ?_ ?_ ops.size (Array.replicate ops.size false) a _ (by simp) (by
    exact Nat.le_trans (List.length_filter_le _ _) (by simp)) ?_
  · rintro D D' a w hDD ⟨st, G, hm, hR⟩
    exact ⟨st, G, hm.congr k1 (fun k hk => hDD k (by omega)), hR⟩
  · rintro D a w i o ho ⟨st', G', hm, hR2⟩ hnd hr
    obtain ⟨s, q, hs, hso⟩ := hget i o ho
    have hstep := mid_step4 hok hu hC hf hm hs hnd hr
    have hstN : st'.N = N := by
      have := hm.N
      rw [hf0, hN] at this
      exact this
    exact gstep_sound (Q := Q) ho (by rw [hstN]; exact hso) hR2 hstep
  · rintro D a w hall ⟨st', G', hm, hR2⟩
    have := mid_end hf hm fun i hi => hall i (by omega)
    subst this
    exact hK _ G' a w hKf hR2
  · refine ⟨st, G, ?_, hR'⟩
    rw [← hf0]
    refine mid_start _ fun i => ?_
    rw [Array.getD_eq_getD_getElem?, Array.getElem?_replicate]
    split <;> simp
end
end Go.Proofs.YtbmmdkbinlnogaaDoor.Aw
