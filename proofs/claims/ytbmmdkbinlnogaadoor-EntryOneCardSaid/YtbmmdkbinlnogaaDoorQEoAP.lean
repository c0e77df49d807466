/- Parts of the proofs of Eo. -/
import Derived.Test.YtbmmdkbinlnogaaDoorQEoAO
namespace Go.Proofs.YtbmmdkbinlnogaaDoor.Aw
open Go
set_option linter.unusedSimpArgs false
set_option linter.unusedVariables false
def binders (ops : Array Oper) (i : Nat) : List Nat := ((ops[i]?).map fun o => (o.after.toList.filter (Region.binds .any)).map (·.on)).getD []
def reach (ops : Array Oper) : Nat → Nat → Nat → Bool
  | 0, _, _ => false
  | f + 1, i, j => (binders ops j).any fun k => k == i || reach ops f i k
def tmpsOf (l : List Operand) : List Nat := l.filterMap fun | .tmp t => some t | _ => none
def SOper.reads (s : SOper) : List Nat := tmpsOf s.op.ops ++ (match s.guard with | some (g, _) => [g] | none => [])
def deep : Nat := 12
def drawOk (ops : Array Oper) (sl : List SOper) : Bool :=
  let n := sl.length
  let d (i : Nat) : Option Nat := (sl[i]?).bind (·.dst)
  (List.range n).all (fun i => (binders ops i).all (· < i)) &&
  (List.range n).all (fun i => (List.range n).all fun j => i == j || (d i).isNone || d i != d j) &&
  (sl.zipIdx.all fun (s, i) => s.reads.all fun t => (List.range n).all fun j => d j != some t || (j != i && (reach ops deep j i || reach ops deep i j))) &&
  (sl.zipIdx.all fun (s, i) => !s.op.isHv || sl.zipIdx.all fun (u, j) => i == j || !(u.op.isHv || u.op.touches) || reach ops deep i j || reach ops deep j i)
section
variable {P : Program} [Tabs P] {ops : Array Oper} {sl : List SOper}
theorem reach_lt (hb : ∀ i, i < sl.length → ∀ k ∈ binders ops i, k < i) : ∀ (f i j : Nat), j < sl.length → reach ops f i j = true → i < j
  | 0, _, _, _, h => by simp [reach] at h
  | f + 1, i, j, hj, h => by
    simp only [reach, List.any_eq_true, Bool.or_eq_true, beq_iff_eq] at h
    obtain ⟨k, hk, h⟩ := h
    have := hb j hj k hk
    rcases h with rfl | h
    · exact this
    · have := reach_lt hb f i k (by omega) h; omega
theorem reach_done {D : Nat → Prop} (hb : ∀ i, i < sl.length → ∀ k ∈ binders ops i, k < i) (hD : ∀ i, i < sl.length → D i → ∀ k ∈ binders ops i, D k) : ∀ (f i j : Nat), j < sl.length → (∀ k ∈ binders ops j, D k) → reach ops f i j = true → D i
  | 0, _, _, _, _, h => by simp [reach] at h
  | f + 1, i, j, hj, hr, h => by
    simp only [reach, List.any_eq_true, Bool.or_eq_true, beq_iff_eq] at h
    obtain ⟨k, hk, h⟩ := h
    rcases h with rfl | h
    · exact hr k hk
    · have hlt := hb j hj k hk
      exact reach_done hb hD f i k (by omega) (hD k (by omega) (hr k hk)) h
theorem ev_congr {st st' : ASt} {l : List Operand} (h : ∀ t ∈ tmpsOf l, st.tm t = st'.tm t) : ∀ x ∈ l, ev P st x = ev P st' x := by
  intro x hx
  cases x with
  | tmp t => exact h t (by simp only [tmpsOf, List.mem_filterMap]; exact ⟨.tmp t, hx, rfl⟩)
  | _ => rfl
theorem pv_congr {s : SOp} {e e' : Operand → AV} {hp hp' : Hp} (h : ∀ x ∈ s.ops, e x = e' x) (hh : s.touches = true → hp = hp') : pv s e hp = pv s e' hp' := by
  have hop : ∀ o : Option Operand, (∀ x ∈ o.toList, e x = e' x) → o.map e = o.map e' := by
    intro o ho; cases o with
    | none => rfl
    | some x => simp [ho x (by simp)]
  cases s with
  | sls x lo hi =>
    simp only [SOp.ops, List.mem_append, List.mem_singleton] at h
    simp only [pv]
    rw [h x (by simp), hop lo fun y hy => h y (by simp [hy]), hop hi fun y hy => h y (by simp [hy])]
  | sl es x lo hi =>
    simp only [SOp.ops, List.mem_append, List.mem_singleton] at h
    simp only [pv]
    rw [h x (by simp), hop lo fun y hy => h y (by simp [hy]), hop hi fun y hy => h y (by simp [hy])]
  | sl3 es x lo hi mx =>
    simp only [SOp.ops, List.mem_append, List.mem_singleton] at h
    simp only [pv]
    rw [h x (by simp), hop lo fun y hy => h y (by simp [hy]), h hi (by simp), h mx (by simp)]
  | sla n es x lo hi =>
    simp only [SOp.ops, List.mem_append, List.mem_singleton] at h
    simp only [pv]
    rw [h x (by simp), hop lo fun y hy => h y (by simp [hy]), hop hi fun y hy => h y (by simp [hy]), hh rfl]
  | build z ps =>
    simp only [SOp.ops, List.mem_map] at h
    simp only [pv]
    congr 1
    exact List.map_congr_left fun p hp => by rw [h _ ⟨p, hp, rfl⟩]
  | bslice es ps =>
    simp only [SOp.ops] at h
    simp only [pv]
    rw [List.map_congr_left h]
  | len s x =>
    simp only [SOp.ops, List.mem_singleton] at h
    cases s
    · simp only [pv]; rw [h x rfl]
    · simp only [pv]; simp [h x rfl]
  | mkf f caps =>
    simp only [SOp.ops] at h
    simp only [pv]
    rw [List.map_congr_left h]
  | mm mx x xs =>
    simp only [SOp.ops, List.mem_cons] at h
    simp only [pv]
    rw [h x (.inl rfl), List.map_congr_left fun y hy => h y (.inr hy)]
  | call t f args => rfl
  | callv t x args => rfl
  | mkm => rfl
  | no => rfl
  | bsl es ps => rfl
  | alloc z => rfl
  | emp z => rfl
  | _ =>
    simp only [SOp.ops, List.mem_cons, List.not_mem_nil, or_false, forall_eq_or_imp, forall_eq] at h
    simp only [pv]
    first
      | done
      | (simp [h]; done)
      | (rw [hh rfl]; simp [h])
theorem hv_congr {s : SOp} {e e' : Operand → AV} {hp : Hp} {gc d : Nat} (h : ∀ x ∈ s.ops, e x = e' x) : hv s e hp gc d = hv s e' hp gc d := by
  cases s <;> simp only [SOp.ops, List.mem_cons, List.not_mem_nil, or_false, forall_eq_or_imp, forall_eq] at h
  case bsl es ps => simp only [hv]; rw [List.map_congr_left h]
  all_goals simp [hv, h]
theorem AVal.congr {s : SOp} {e e' : Operand → AV} {hp hp' h₁ : Hp} {gc gc' g₁ d : Nat} {r : AV} (h : AVal P s e hp gc d r h₁ g₁) (he : ∀ x ∈ s.ops, e x = e' x) (ht : s.touches = true → hp = hp') (hq : s.isHv = true → hp = hp' ∧ gc = gc') :
    (s.isHv = true ∧ AVal P s e' hp' gc' d r h₁ g₁) ∨ (s.isHv = false ∧ h₁ = hp ∧ g₁ = gc ∧ AVal P s e' hp' gc' d r hp' gc') := by
  cases s with
  | call t f args =>
    have hm : args.map e' = args.map e := List.map_congr_left fun x hx => (he x hx).symm
    cases t with
    | false =>
      rcases h with ⟨h1, rfl, rfl⟩ | ⟨h0, _⟩
      · refine .inr ⟨rfl, rfl, rfl, .inl ⟨?_, rfl, rfl⟩⟩
        rw [← ht rfl, hm]
        exact h1
      · simp at h0
    | true =>
      obtain ⟨rfl, rfl⟩ := hq rfl
      refine .inl ⟨rfl, ?_⟩
      simp only [AVal] at h ⊢
      rw [hm]
      exact h
  | callv t x args =>
    have hm : args.map e' = args.map e := List.map_congr_left fun y hy => (he y (by simp [SOp.ops, hy])).symm
    have hx : e' x = e x := (he x (by simp [SOp.ops])).symm
    obtain ⟨f, cp, e1, e2, h⟩ := h
    cases t with
    | false =>
      rcases h with ⟨h1, rfl, rfl⟩ | ⟨h0, _⟩
      · refine .inr ⟨rfl, rfl, rfl, f, cp, by rw [hx]; exact e1, e2, .inl ⟨?_, rfl, rfl⟩⟩
        rw [← ht rfl, hm]
        exact h1
      · simp at h0
    | true =>
      obtain ⟨rfl, rfl⟩ := hq rfl
      refine .inl ⟨rfl, f, cp, by rw [hx]; exact e1, e2, ?_⟩
      rw [hm]
      exact h
  | _ =>
    simp only [AVal] at h ⊢
    split at h
    · rename_i hv'
      obtain ⟨rfl, rfl⟩ := hq hv'
      left
      rw [if_pos hv', ← hv_congr he]
      exact ⟨hv', h⟩
    · rename_i hv'
      right
      obtain ⟨h1, h2, h3, h4⟩ := h
      rw [if_neg hv', ← pv_congr he ht]
      exact ⟨by simpa using hv', h3, h4, h1, h2, by simp⟩
def GRel (P : Program) [Tabs P] (o : SOper) (st st' : ASt) : Prop :=
  match o.guard with
  | none => ARel P o.op o.dst st st'
  | some (g, want) => ∃ b, gIs (st.tm g) want b ∧ (b = want → ARel P o.op o.dst st st') ∧ (b = !want → st' = st.put o.dst (.sc undef))
def Runs (P : Program) [Tabs P] (sl : List SOper) (f : Nat → ASt) : Prop :=
  ∀ (i : Nat) (o : SOper), sl[i]? = some o → GRel P o (f i) (f (i + 1))
theorem AOps.runs {K : ASt → Prop} : ∀ {sl : List SOper} {st : ASt}, AOps P sl K st → ∃ f, f 0 = st ∧ K (f sl.length) ∧ Runs P sl f
  | [], st, h => ⟨fun _ => st, rfl, h, fun i o hi => by simp at hi⟩
  | o :: sl, st, h => by
    have h' : ∃ st', GRel P o st st' ∧ AOps P sl K st' := by
      simp only [AOps] at h
      cases hg : o.guard with
      | none =>
        rw [hg] at h
        obtain ⟨st', h1, h2⟩ := h.rel
        exact ⟨st', by simpa only [GRel, hg] using h1, h2⟩
      | some q =>
        obtain ⟨g, want⟩ := q
        rw [hg] at h
        obtain ⟨b, hb, h1, h2⟩ := h
        by_cases e : b = want
        · obtain ⟨st', k1, k2⟩ := (h1 e).rel
          refine ⟨st', ?_, k2⟩
          simp only [GRel, hg]
          exact ⟨b, hb, fun _ => k1, fun e' => by subst e; cases b <;> simp at e'⟩
        · have e' : b = !want := by cases b <;> cases want <;> simp_all
          refine ⟨st.put o.dst (.sc undef), ?_, h2 e'⟩
          simp only [GRel, hg]
          exact ⟨b, hb, fun h => absurd h e, fun _ => by trivial⟩
    obtain ⟨st', h1, h2⟩ := h'
    obtain ⟨f, rfl, k1, k2⟩ := AOps.runs h2
    refine ⟨fun i => if i = 0 then st else f (i - 1), by simp, by simpa using k1, fun i u hi => ?_⟩
    cases i with
    | zero =>
      simp at hi
      subst hi
      simpa using h1
    | succ i =>
      have := k2 i u (by simpa using hi)
      simpa using this
theorem Runs.tm {f : Nat → ASt} (h : Runs P sl f) {i : Nat} {o : SOper} (hi : sl[i]? = some o) {t : Nat} (ht : o.dst ≠ some t) : (f (i + 1)).tm t = (f i).tm t := by
  have hr : ∀ s d s', ARel P s d (f i) s' → d ≠ some t → s'.tm t = (f i).tm t := by
    rintro s d s' ⟨r, hp', gc', _, rfl⟩ hd
    rw [sput_get, if_neg hd]
  have := h i o hi
  unfold GRel at this
  split at this
  · exact hr _ _ _ this ht
  · rename_i g want _
    obtain ⟨b, _, h1, h2⟩ := this
    by_cases e : b = want
    · exact hr _ _ _ (h1 e) ht
    · rw [h2 (by cases b <;> cases want <;> simp_all), sput_get, if_neg ht]
theorem Runs.hp {f : Nat → ASt} (h : Runs P sl f) {i : Nat} {o : SOper} (hi : sl[i]? = some o) (ht : o.op.isHv = false) : (f (i + 1)).hp = (f i).hp ∧ (f (i + 1)).gc = (f i).gc := by
  have hr : ∀ s', ARel P o.op o.dst (f i) s' → s'.hp = (f i).hp ∧ s'.gc = (f i).gc := by
    rintro s' ⟨r, hp', gc', hv', rfl⟩
    rw [sput_hp, sput_gc]
    cases hs : o.op <;> rw [hs] at hv' ht <;> simp only [AVal] at hv'
    case call t f args =>
      rcases hv' with h | ⟨h0, _⟩
      · exact h.2
      · rw [h0] at ht; simp [SOp.isHv] at ht
    case callv t x args =>
      obtain ⟨f, _, _, _, hv'⟩ := hv'
      rcases hv' with h | ⟨h0, _⟩
      · exact h.2
      · rw [h0] at ht; simp [SOp.isHv] at ht
    all_goals (rw [if_neg (by simp [ht])] at hv'; exact hv'.2.2)
  have := h i o hi
  unfold GRel at this
  split at this
  · exact hr _ this
  · rename_i g want _
    obtain ⟨b, _, h1, h2⟩ := this
    by_cases e : b = want
    · exact hr _ (h1 e)
    · rw [h2 (by cases b <;> cases want <;> simp_all), sput_hp, sput_gc]; exact ⟨rfl, rfl⟩
theorem Runs.N {f : Nat → ASt} (h : Runs P sl f) : ∀ i, i ≤ sl.length → (f i).N = (f 0).N
  | 0, _ => rfl
  | i + 1, hi => by
    have hlt : i < sl.length := by omega
    rw [← Runs.N h i (by omega)]
    have hr : ∀ s d s', ARel P s d (f i) s' → s'.N = (f i).N := by
      rintro s d s' ⟨r, hp', gc', _, rfl⟩
      rw [sput_N]
    have := h i _ (List.getElem?_eq_getElem hlt)
    unfold GRel at this
    split at this
    · exact hr _ _ _ this
    · rename_i g want _
      obtain ⟨b, _, h1, h2⟩ := this
      by_cases e : b = want
      · exact hr _ _ _ (h1 e)
      · rw [h2 (by cases b <;> cases want <;> simp_all), sput_N]
theorem Runs.hp_range {f : Nat → ASt} (h : Runs P sl f) {m : Nat} : ∀ k, m + k ≤ sl.length → (∀ (i : Nat) (o : SOper), m ≤ i → i < m + k → sl[i]? = some o → o.op.isHv = false) → (f (m + k)).hp = (f m).hp ∧ (f (m + k)).gc = (f m).gc
  | 0, _, _ => ⟨rfl, rfl⟩
  | k + 1, hk, hno => by
    have hlt : m + k < sl.length := by omega
    have ih := Runs.hp_range h k (by omega) fun i o h1 h2 h3 => hno i o h1 (by omega) h3
    have := h.hp (List.getElem?_eq_getElem hlt) (hno _ _ (by omega) (by omega) (List.getElem?_eq_getElem hlt))
    exact ⟨this.1.trans ih.1, this.2.trans ih.2⟩
theorem Runs.tm_range {f : Nat → ASt} (h : Runs P sl f) {m t : Nat} : ∀ k, m + k ≤ sl.length → (∀ (i : Nat) (o : SOper), m ≤ i → i < m + k → sl[i]? = some o → o.dst ≠ some t) → (f (m + k)).tm t = (f m).tm t
  | 0, _, _ => rfl
  | k + 1, hk, hno => by
    have hlt : m + k < sl.length := by omega
    have ih := Runs.tm_range h k (by omega) fun i o h1 h2 h3 => hno i o h1 (by omega) h3
    have := h.tm (List.getElem?_eq_getElem hlt) (hno _ _ (by omega) (by omega) (List.getElem?_eq_getElem hlt))
    exact this.trans ih
structure Mid (P : Program) [Tabs P] (ops : Array Oper) (sl : List SOper) (f : Nat → ASt) (D : Nat → Prop) (st : ASt) : Prop where
  closed : ∀ i, i < sl.length → D i → ∀ k ∈ binders ops i, D k
  done : ∀ (t i : Nat) (o : SOper), sl[i]? = some o → o.dst = some t → D i → st.tm t = (f sl.length).tm t
  ahead : ∀ t, (∀ (i : Nat) (o : SOper), sl[i]? = some o → o.dst = some t → ¬ D i) → st.tm t = (f 0).tm t
  heap : ∃ m, m ≤ sl.length ∧ st.hp = (f m).hp ∧ st.gc = (f m).gc ∧ ∀ (i : Nat) (o : SOper), sl[i]? = some o → o.op.isHv = true → (D i ↔ i < m)
  N : st.N = (f 0).N
theorem lt_of_get {α : Type} {l : List α} {i : Nat} {x : α} (h : l[i]? = some x) : i < l.length := by
  rcases Nat.lt_or_ge i l.length with h' | h'
  · exact h'
  · rw [List.getElem?_eq_none h'] at h; simp at h
theorem mem_zipIdx' {α : Type} {l : List α} {i : Nat} {x : α} (h : l[i]? = some x) : (x, i) ∈ l.zipIdx := by
  rw [List.mem_iff_getElem?]
  exact ⟨i, by simp [List.getElem?_zipIdx, h]⟩
theorem drawOk_spec (h : drawOk ops sl = true) :
    (∀ i, i < sl.length → ∀ k ∈ binders ops i, k < i) ∧
    (∀ (i j : Nat) (o u : SOper) (t : Nat), sl[i]? = some o → sl[j]? = some u → o.dst = some t → u.dst = some t → i = j) ∧
    (∀ (i j : Nat) (o u : SOper) (t : Nat), sl[i]? = some o → sl[j]? = some u → t ∈ o.reads → u.dst = some t → j ≠ i ∧ (reach ops deep j i = true ∨ reach ops deep i j = true)) ∧
    (∀ (i j : Nat) (o u : SOper), sl[i]? = some o → sl[j]? = some u → o.op.isHv = true → i ≠ j → (u.op.isHv = true ∨ u.op.touches = true) → reach ops deep i j = true ∨ reach ops deep j i = true) := by
  simp only [drawOk, Bool.and_eq_true] at h
  obtain ⟨⟨⟨h1, h2⟩, h3⟩, h4⟩ := h
  refine ⟨?_, ?_, ?_, ?_⟩
  · intro i hi k hk
    have := List.all_eq_true.1 h1 i (List.mem_range.2 hi)
    simpa using List.all_eq_true.1 this k hk
  · intro i j o u t hi hj ho hu
    have := List.all_eq_true.1 (List.all_eq_true.1 h2 i (List.mem_range.2 (lt_of_get hi))) j (List.mem_range.2 (lt_of_get hj))
    simpa [hi, hj, ho, hu] using this
  · intro i j o u t hi hj ht hu
    have := List.all_eq_true.1 (List.all_eq_true.1 (List.all_eq_true.1 h3 (o, i) (mem_zipIdx' hi)) t ht) j (List.mem_range.2 (lt_of_get hj))
    simpa [hj, hu] using this
  · intro i j o u hi hj ho hne hu
    have h5 := List.all_eq_true.1 h4 (o, i) (mem_zipIdx' hi)
    simp only [ho, Bool.not_true, Bool.false_or] at h5
    have := List.all_eq_true.1 h5 (u, j) (mem_zipIdx' hj)
    have e1 : (i == j) = false := by simpa using hne
    have e2 : (u.op.isHv || u.op.touches) = true := by simpa using hu
    simpa [e1, e2] using this
theorem mid_start {f : Nat → ASt} (D : Nat → Prop) (hD : ∀ i, ¬ D i) : Mid P ops sl f D (f 0) :=
  ⟨fun _ _ h => absurd h (hD _), fun _ _ _ _ _ h => absurd h (hD _), fun _ _ => rfl, ⟨0, by omega, rfl, rfl, fun i _ _ _ => ⟨fun h => absurd h (hD i), fun h => by omega⟩⟩, rfl⟩
theorem mid_step {f : Nat → ASt} {D : Nat → Prop} {st : ASt} (hok : drawOk ops sl = true) (hf : Runs P sl f) (hm : Mid P ops sl f D st) {i : Nat} {o : SOper} (hi : sl[i]? = some o) (hnd : ¬ D i) (hr : ∀ k ∈ binders ops i, D k) :
    GStep P o (fun s' => Mid P ops sl f (fun k => k = i ∨ D k) s') st := by
  obtain ⟨k1, k2, k3, k4⟩ := drawOk_spec hok
  have hin : i < sl.length := lt_of_get hi
  have htm : ∀ t ∈ o.reads, st.tm t = (f i).tm t := by
    intro t ht
    by_cases hw : ∃ (j : Nat) (u : SOper), sl[j]? = some u ∧ u.dst = some t
    · obtain ⟨j, u, hj, hu⟩ := hw
      have hjn := lt_of_get hj
      obtain ⟨hne, hor⟩ := k3 i j o u t hi hj ht hu
      have huniq : ∀ (m : Nat) (v : SOper), sl[m]? = some v → v.dst = some t → m = j := fun m v hm' hv => k2 m j v u t hm' hj hv hu
      rcases hor with h' | h'
      · -- written ahead of it
        have hDj : D j := reach_done k1 hm.closed deep j i hin hr h'
        have hji := reach_lt k1 deep j i hin h'
        rw [hm.done t j u hj hu hDj]
        have := hf.tm_range (t := t) (m := i) (sl.length - i) (by omega) fun m v h1 h2 h3 hv => by
          have := huniq m v h3 hv; omega
        rw [show i + (sl.length - i) = sl.length from by omega] at this
        exact this
      · -- written behind it
        have hij := reach_lt k1 deep i j hjn h'
        have hDj : ¬ D j := fun hDj => hnd (reach_done k1 hm.closed deep i j hjn (hm.closed j hjn hDj) h')
        rw [hm.ahead t fun m v h1 h2 => by rw [huniq m v h1 h2]; exact hDj]
        have := hf.tm_range (t := t) (m := 0) i (by omega) fun m v h1 h2 h3 hv => by
          have := huniq m v h3 hv; omega
        rw [Nat.zero_add] at this
        exact this.symm
    · have hno : ∀ (m : Nat) (v : SOper), sl[m]? = some v → v.dst = some t → False := fun m v h1 h2 => hw ⟨m, v, h1, h2⟩
      rw [hm.ahead t fun m v h1 h2 => (hno m v h1 h2).elim]
      have := hf.tm_range (t := t) (m := 0) i (by omega) fun m v h1 h2 h3 hv => hno m v h3 hv
      rw [Nat.zero_add] at this
      exact this.symm
  obtain ⟨m, hml, hhp, hgc, hmD⟩ := hm.heap
  have hheap : (o.op.isHv = true ∨ o.op.touches = true) → st.hp = (f i).hp ∧ st.gc = (f i).gc ∧ ∀ (e : Nat) (u : SOper), sl[e]? = some u → u.op.isHv = true → e ≠ i → (D e ↔ e < i) := by
    intro ht
    have hlt : ∀ (e : Nat) (u : SOper), sl[e]? = some u → u.op.isHv = true → e ≠ i → (D e ↔ e < i) := by
      intro e u he hu hne
      have hen := lt_of_get he
      rcases k4 e i u o he hi hu hne ht with h' | h'
      · have := reach_lt k1 deep e i hin h'
        exact ⟨fun _ => this, fun _ => reach_done k1 hm.closed deep e i hin hr h'⟩
      · have := reach_lt k1 deep i e hen h'
        exact ⟨fun hDe => absurd (reach_done k1 hm.closed deep i e hen (hm.closed e hen hDe) h') hnd, fun h => by omega⟩
    have hmf : (f m).hp = (f i).hp ∧ (f m).gc = (f i).gc := by
      by_cases hmi : m ≤ i
      · have := hf.hp_range (m := m) (i - m) (by omega) fun e u h1 h2 h3 => by
          cases hu : u.op.isHv with
          | false => rfl
          | true =>
            have h4 : ¬ D e := fun hd => by have := (hmD e u h3 hu).1 hd; omega
            have h5 := (hlt e u h3 hu (by omega)).2 (by omega)
            exact absurd h5 h4
        rw [show m + (i - m) = i from by omega] at this
        exact ⟨this.1.symm, this.2.symm⟩
      · have := hf.hp_range (m := i) (m - i) (by omega) fun e u h1 h2 h3 => by
          cases hu : u.op.isHv with
          | false => rfl
          | true =>
            have h4 := (hmD e u h3 hu).2 (by omega)
            by_cases he : e = i
            · subst he; exact absurd h4 hnd
            · have h5 := (hlt e u h3 hu he).1 h4
              omega
        rw [show i + (m - i) = m from by omega] at this
        exact this
    exact ⟨hhp.trans hmf.1, hgc.trans hmf.2, hlt⟩
  have hafter : ∀ (s' : ASt), (∀ t, s'.tm t = if o.dst = some t then (f (i + 1)).tm t else st.tm t) → s'.N = st.N → ((o.op.isHv = false ∧ s'.hp = st.hp ∧ s'.gc = st.gc) ∨ (s'.hp = (f (i + 1)).hp ∧ s'.gc = (f (i + 1)).gc ∧ o.op.isHv = true)) → Mid P ops sl f (fun k => k = i ∨ D k) s' := by
    intro s' hs' hN' hh'
    refine ⟨?_, ?_, ?_, ?_, by rw [hN', hm.N]⟩
    · rintro j hj (rfl | hDj) k hk
      · exact .inr (hr k hk)
      · exact .inr (hm.closed j hj hDj k hk)
    · rintro t j u hj hu (rfl | hDj)
      · rw [hi] at hj; cases hj
        rw [hs', if_pos hu]
        have := hf.tm_range (t := t) (m := j + 1) (sl.length - (j + 1)) (by omega) fun m' v h1 h2 h3 hv => by
          have := k2 m' j v o t h3 hi hv hu; omega
        rw [show j + 1 + (sl.length - (j + 1)) = sl.length from by omega] at this
        exact this.symm
      · rw [hs', if_neg (fun e => hnd (by have := k2 i j o u t hi hj e hu; subst this; exact hDj))]
        exact hm.done t j u hj hu hDj
    · intro t ht
      rw [hs', if_neg (fun e => ht i o hi e (.inl rfl))]
      exact hm.ahead t fun j u h1 h2 h3 => ht j u h1 h2 (.inr h3)
    · rcases hh' with ⟨hq, h1, h2⟩ | ⟨h1, h2, hq⟩
      · refine ⟨m, hml, h1.trans hhp, h2.trans hgc, fun e u he hu => ?_⟩
        have hne : e ≠ i := fun e' => by subst e'; rw [hi] at he; cases he; rw [hq] at hu; exact absurd hu (by simp)
        constructor
        · rintro (rfl | h)
          · exact absurd rfl hne
          · exact (hmD e u he hu).1 h
        · intro h; exact .inr ((hmD e u he hu).2 h)
      · obtain ⟨_, _, hlt⟩ := hheap (.inl hq)
        refine ⟨i + 1, by omega, h1, h2, fun e u he hu => ?_⟩
        constructor
        · rintro (rfl | h)
          · omega
          · by_cases he' : e = i
            · omega
            · have := (hlt e u he hu he').1 h; omega
        · intro h
          by_cases he' : e = i
          · exact .inl he'
          · exact .inr ((hlt e u he hu he').2 (by omega))
  have hrel : ARel P o.op o.dst (f i) (f (i + 1)) → AStep P o.op o.dst st (fun s' => Mid P ops sl f (fun k => k = i ∨ D k) s') := by
    rintro ⟨r, hp', gc', hval, hfi⟩
    have hev : ∀ x ∈ o.op.ops, ev P (f i) x = ev P st x := ev_congr fun t ht => (htm t (by simp [SOper.reads, ht])).symm
    rcases hval.congr hev (fun ht => (hheap (.inr ht)).1.symm) (fun ht => ⟨(hheap (.inl ht)).1.symm, (hheap (.inl ht)).2.1.symm⟩) with ⟨hq, hv'⟩ | ⟨hq, e1, e2, hv'⟩
    · refine ARel.step ⟨r, hp', gc', hv', rfl⟩ (hafter _ ?_ (sput_N _ _ _) (.inr ?_))
      · intro t
        rw [sput_get, hfi, sput_get]
        split <;> rfl
      · rw [sput_hp, sput_gc, hfi, sput_hp, sput_gc]
        exact ⟨rfl, rfl, hq⟩
    · refine ARel.step ⟨r, _, _, hv', rfl⟩ (hafter _ ?_ (sput_N _ _ _) (.inl ?_))
      · intro t
        rw [sput_get, hfi, sput_get]
        split <;> rfl
      · rw [sput_hp, sput_gc]; exact ⟨hq, rfl, rfl⟩
  have hri := hf i o hi
  unfold GRel at hri
  unfold GStep
  split at hri
  · rename_i hg
    try rw [hg]
    exact hrel hri
  · rename_i g want hg
    try rw [hg]
    obtain ⟨b, hb, h1, h2⟩ := hri
    have hgr : gIs (st.tm g) want b := by
      rw [htm g (by simp [SOper.reads, hg])]; exact hb
    refine ⟨b, hgr, fun e => hrel (h1 e), fun e => ?_⟩
    have hfi := h2 e
    cases hq : o.op.isHv with
    | false =>
      refine hafter _ ?_ (sput_N _ _ _) (.inl ?_)
      · intro t
        rw [sput_get, hfi, sput_get]
        split <;> rfl
      · rw [sput_hp, sput_gc]; exact ⟨hq, rfl, rfl⟩
    | true =>
      refine hafter _ ?_ (sput_N _ _ _) (.inr ?_)
      · intro t
        rw [sput_get, hfi, sput_get]
        split <;> rfl
      · obtain ⟨e1, e2, _⟩ := hheap (.inl hq)
        rw [sput_hp, sput_gc, hfi, sput_hp, sput_gc]
        exact ⟨e1, e2, hq⟩
theorem mid_end {f : Nat → ASt} {D : Nat → Prop} {st : ASt} (hf : Runs P sl f) (hm : Mid P ops sl f D st) (hall : ∀ i, i < sl.length → D i) : st = f sl.length := by
  obtain ⟨m, hml, hhp, hgc, hmD⟩ := hm.heap
  have htm : st.tm = (f sl.length).tm := by
    funext t
    by_cases hw : ∃ (j : Nat) (u : SOper), sl[j]? = some u ∧ u.dst = some t
    · obtain ⟨j, u, hj, hu⟩ := hw
      exact hm.done t j u hj hu (hall j (lt_of_get hj))
    · have hno : ∀ (m : Nat) (v : SOper), sl[m]? = some v → v.dst = some t → False := fun m v h1 h2 => hw ⟨m, v, h1, h2⟩
      rw [hm.ahead t fun m v h1 h2 => (hno m v h1 h2).elim]
      have := hf.tm_range (t := t) (m := 0) sl.length (by omega) fun m v h1 h2 h3 hv => hno m v h3 hv
      rw [Nat.zero_add] at this
      exact this.symm
  have hh := hf.hp_range (m := m) (sl.length - m) (by omega) fun e u h1 h2 h3 => by
    cases hu : u.op.isHv with
    | false => rfl
    | true =>
      have := (hmD e u h3 hu).1 (hall e (lt_of_get h3))
      omega
  rw [show m + (sl.length - m) = sl.length from by omega] at hh
  have hN := hf.N sl.length (Nat.le_refl _)
  cases st with
  | mk tm hp gc N =>
    cases hfe : f sl.length with
    | mk tm' hp' gc' N' =>
      rw [hfe] at htm hh hN
      simp only at htm hh hN hhp hgc
      have hN' := hm.N
      simp only at hN'
      rw [htm, hhp, hgc, ← hh.1, ← hh.2, hN', hN]
end
end Go.Proofs.YtbmmdkbinlnogaaDoor.Aw
