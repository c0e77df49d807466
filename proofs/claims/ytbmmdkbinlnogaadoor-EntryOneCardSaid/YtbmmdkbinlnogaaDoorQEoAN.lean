/- Parts of the proofs of Eo. -/
import Derived.Test.YtbmmdkbinlnogaaDoorQEoAM
namespace Go.Proofs.YtbmmdkbinlnogaaDoor.Aw
open Go
set_option linter.unusedSimpArgs false
set_option linter.unusedVariables false
def gIs (x : AV) (want b : Bool) : Prop := x = .sc (.bool b) ∨ (x = .sc undef ∧ b = !want)
def AOps (P : Program) [Tabs P] : List SOper → (ASt → Prop) → ASt → Prop
  | [], K, st => K st
  | o :: r, K, st =>
    match o.guard with
    | none => AStep P o.op o.dst st (AOps P r K)
    | some (g, want) => ∃ b, gIs (st.tm g) want b ∧ (b = want → AStep P o.op o.dst st (AOps P r K)) ∧ (b = !want → AOps P r K (st.put o.dst (.sc undef)))
def SOp.ops : SOp → List Operand
  | .no => []
  | .mv x | .isnil _ x | .isnilp _ x | .strz x | .un _ x | .ci _ x | .sid x | .b2s x | .s2b x | .faddr _ x | .fld _ _ x | .load _ x | .box x | .ext x _ | .nilc x | .len _ x | .capn x => [x]
  | .pick c a b => [c, a, b]
  | .bin _ x y | .beq _ x y | .iaddr _ x y | .iaddrA _ _ x y | .idxS x y | .idxA _ _ x y | .store _ x y | .app _ _ x y | .appz _ _ _ x y | .apps _ x y | .aeq _ _ x y | .copy x y | .mks _ _ _ x y => [x, y]
  | .sls x lo hi | .sl _ x lo hi | .sla _ _ x lo hi => [x] ++ lo.toList ++ hi.toList
  | .sl3 _ x lo hi mx => [x] ++ lo.toList ++ [hi, mx]
  | .alloc _ | .emp _ => []
  | .build _ ps => ps.map (·.2.2)
  | .bslice _ ps | .bsl _ ps => ps
  | .call _ _ args => args
  | .callv _ x args => x :: args
  | .mkf _ caps => caps
  | .mkm => []
  | .mget _ _ _ x k | .mdel _ x k => [x, k]
  | .mset _ x k v => [x, k, v]
  | .mlen x => [x]
  | .mm _ x xs => x :: xs
def SOp.touches : SOp → Bool
  | .no | .mv _ | .pick .. | .bin .. | .beq .. | .aeq .. | .un .. | .ci .. | .sid _ | .s2b _ | .sls .. | .fld .. | .idxS .. | .idxA .. | .build .. | .bslice .. | .ext .. | .len .. | .isnilp .. | .sl .. | .sl3 .. | .faddr .. | .iaddr .. | .iaddrA .. | .nilc _ | .capn _ | .mkf .. | .mm .. => false
  | _ => true
def dstOk (N : Nat) : Option Nat → Bool
  | some d => decide (d < N)
  | none => true
def appended (ops : Array Oper) : Option Nat → Bool
  | some t => ops.toList.any fun o => match o.op with
    | .call c => (match c.callee, c.args.toList with
      | .builtin .append, [_, .tmp t'] => t' == t
      | _, _ => false)
    | _ => false
  | none => false
def isTmp (t : Nat) : Operand → Bool
  | .tmp t' => t' == t
  | _ => false
def innerRow (P : Program) (ops : Array Oper) (o : Oper) : Bool :=
  match slimOp P o, o.dst with
  | .bslice none ps, some t =>
    (ps.any fun x => ops.toList.any fun o2 => match slimOp P o2, o2.dst with
      | .call _ _ _, some t2 => isTmp t2 x
      | _, _ => false) ||
    (ops.toList.any fun o2 => match slimOp P o2, o2.dst with
      | .build _ qs, some t2 => qs.any (fun q => isTmp t q.2.2) && ops.toList.any fun o3 => match slimOp P o3 with
        | .bslice _ rs => appended ops o3.dst && rs.any (isTmp t2)
        | _ => false
      | _, _ => false)
  | _, _ => false
def slimK (P : Program) (ops : Array Oper) (o : Oper) : SOp :=
  match slimOp P o with
  | .bslice es ps => if appended ops o.dst || innerRow P ops o then .bslice es ps else .bsl es ps
  | s => s
def slimO (P : Program) (N : Nat) (q : Bool) (ops : Array Oper) (o : Oper) : Option SOper :=
  if dstOk N o.dst then
    match o.guard with
    | none => some ⟨o.dst, if q then (slimOp P o).weak else slimK P ops o, none⟩
    | some (j, want) => match (ops[j]?).bind (·.dst) with
      | some g => if g < N then some ⟨o.dst, if q then (slimOp P o).weak else slimK P ops o, some (g, want)⟩ else none
      | none => none
  else none
section
variable {P : Program} [Tabs P] {w0 : World} {M : Nat → Prop} {Z : Beg} {G : Gh} {st : ASt} {a : Act} {w : World}
theorem AStep.mono {s : SOp} {d : Option Nat} {K K' : ASt → Prop} (h : AStep P s d st K) (hk : ∀ s, K s → K' s) : AStep P s d st K' := by
  cases s <;> simp only [AStep] at h ⊢
  case call t f args =>
    rcases h with ⟨out, h1, h2⟩ | ⟨h0, r, hp', c', h1, h2⟩
    · exact .inl ⟨out, h1, hk _ h2⟩
    · exact .inr ⟨h0, r, hp', c', h1, hk _ h2⟩
  case callv t x args =>
    obtain ⟨f, cp, e1, e2, h⟩ := h
    refine ⟨f, cp, e1, e2, ?_⟩
    rcases h with ⟨out, h1, h2⟩ | ⟨h0, r, hp', c', h1, h2⟩
    · exact .inl ⟨out, h1, hk _ h2⟩
    · exact .inr ⟨h0, r, hp', c', h1, hk _ h2⟩
  all_goals (split at h <;> rename_i hq <;> simp only [hq] <;> exact ⟨h.1, hk _ h.2⟩)
def AVal (P : Program) [Tabs P] (s : SOp) (e : Operand → AV) (hp : Hp) (gc d : Nat) (r : AV) (hp' : Hp) (gc' : Nat) : Prop :=
  match s with
  | .call h f args => (CallOk P f (args.map e) hp r ∧ hp' = hp ∧ gc' = gc) ∨ (h = true ∧ HCallOk P f (args.map e) hp gc r hp' gc')
  | .callv h x args => ∃ f cp, funA (e x) = some (f, cp) ∧ callable P f = true ∧ ((CallOk P f (args.map e ++ cp) hp r ∧ hp' = hp ∧ gc' = gc) ∨ (h = true ∧ HCallOk P f (args.map e ++ cp) hp gc r hp' gc'))
  | s => if s.isHv then (hv s e hp gc d).1 ∧ r = (hv s e hp gc d).2.1 ∧ hp' = (hv s e hp gc d).2.2.1 ∧ gc' = (hv s e hp gc d).2.2.2
    else (pv s e hp).1 ∧ r = (pv s e hp).2 ∧ hp' = hp ∧ gc' = gc
def ARel (P : Program) [Tabs P] (s : SOp) (d : Option Nat) (st st' : ASt) : Prop :=
  ∃ r hp' gc', AVal P s (ev P st) st.hp st.gc (d.getD 0) r hp' gc' ∧ st' = ASt.put ⟨st.tm, hp', gc', st.N⟩ d r
theorem AStep.rel {s : SOp} {d : Option Nat} {K : ASt → Prop} (h : AStep P s d st K) : ∃ st', ARel P s d st st' ∧ K st' := by
  cases s <;> simp only [AStep] at h
  case call t f args =>
    rcases h with ⟨out, h1, h2⟩ | ⟨h0, r, hp', c', h1, h2⟩
    · exact ⟨_, ⟨out, st.hp, st.gc, .inl ⟨h1, rfl, rfl⟩, rfl⟩, h2⟩
    · exact ⟨_, ⟨r, hp', c', .inr ⟨h0, h1⟩, rfl⟩, h2⟩
  case callv t x args =>
    obtain ⟨f, cp, e1, e2, h⟩ := h
    rcases h with ⟨out, h1, h2⟩ | ⟨h0, r, hp', c', h1, h2⟩
    · exact ⟨_, ⟨out, st.hp, st.gc, ⟨f, cp, e1, e2, .inl ⟨h1, rfl, rfl⟩⟩, rfl⟩, h2⟩
    · exact ⟨_, ⟨r, hp', c', ⟨f, cp, e1, e2, .inr ⟨h0, h1⟩⟩, rfl⟩, h2⟩
  all_goals
    split at h
    · rename_i hq
      exact ⟨_, ⟨_, _, _, by simp only [AVal]; rw [if_pos hq]; exact ⟨h.1, by simp⟩, rfl⟩, h.2⟩
    · rename_i hq
      exact ⟨_, ⟨_, _, _, by simp only [AVal]; rw [if_neg hq]; exact ⟨h.1, by simp⟩, rfl⟩, h.2⟩
theorem ARel.step {s : SOp} {d : Option Nat} {K : ASt → Prop} {st' : ASt} (h : ARel P s d st st') (hk : K st') : AStep P s d st K := by
  obtain ⟨r, hp', gc', hv', rfl⟩ := h
  cases s <;> simp only [AVal] at hv' <;> simp only [AStep]
  case call t f args =>
    rcases hv' with ⟨h1, rfl, rfl⟩ | ⟨h0, h1⟩
    · exact .inl ⟨r, h1, hk⟩
    · exact .inr ⟨h0, r, hp', gc', h1, hk⟩
  case callv t x args =>
    obtain ⟨f, cp, e1, e2, hv'⟩ := hv'
    refine ⟨f, cp, e1, e2, ?_⟩
    rcases hv' with ⟨h1, rfl, rfl⟩ | ⟨h0, h1⟩
    · exact .inl ⟨r, h1, hk⟩
    · exact .inr ⟨h0, r, hp', gc', h1, hk⟩
  all_goals
    split at hv'
    · rename_i hq
      obtain ⟨h1, rfl, rfl, rfl⟩ := hv'
      rw [if_pos hq]
      exact ⟨h1, hk⟩
    · rename_i hq
      obtain ⟨h1, rfl, rfl, rfl⟩ := hv'
      rw [if_neg hq]
      exact ⟨h1, hk⟩
theorem wanted_iff {ops : Array Oper} {o : Oper} {j : Nat} {want : Bool} {g : Nat} (hR : R P w0 M Z G st a w) (hg : o.guard = some (j, want)) (hj : (ops[j]?).bind (·.dst) = some g) (hlt : g < st.N) {b : Bool} (hb : gIs (st.tm g) want b) :
    Region.wanted o (yielded ops a.tmps) = (b == want) := by
  have hs : g < a.tmps.size := by rw [hR.size]; exact hlt
  have hv : ∀ x, st.tm g = .sc x → a.tmps[g]? = some x := by
    intro x hb
    have := hR.tm g
    rw [hb] at this
    have := this.sc_inv
    rw [Array.getD_eq_getD_getElem?] at this
    rw [Array.getElem?_eq_getElem hs] at this ⊢
    simpa using this
  rcases hb with hb | ⟨hb, rfl⟩
  · simp only [Region.wanted, hg, yielded, hj, Option.bind_some, hv _ hb]
    cases b <;> cases want <;> rfl
  · simp only [Region.wanted, hg, yielded, hj, Option.bind_some, hv _ hb, undef]
    cases want <;> rfl
def GStep (P : Program) [Tabs P] (o : SOper) (K : ASt → Prop) (st : ASt) : Prop :=
  match o.guard with
  | none => AStep P o.op o.dst st K
  | some (g, want) => ∃ b, gIs (st.tm g) want b ∧ (b = want → AStep P o.op o.dst st K) ∧ (b = !want → K (st.put o.dst (.sc undef)))
theorem AOps_cons (o : SOper) (r : List SOper) (K : ASt → Prop) : AOps P (o :: r) K st = GStep P o (AOps P r K) st := rfl
theorem weak_weak {P : Program} (ops : Array Oper) (o : Oper) (q : Bool) : (if q then (slimOp P o).weak else slimK P ops o).weak = (slimOp P o).weak := by
  cases q with
  | true => simp only [if_true]; cases slimOp P o <;> rfl
  | false =>
    simp only [Bool.false_eq_true, if_false, slimK]
    cases slimOp P o
    case bslice es ps => cases (appended ops o.dst || innerRow P ops o) <;> rfl
    all_goals rfl
theorem gstep_sound {q : Bool} {ops : Array Oper} {o : Oper} {s : SOper} {i : Nat} {K : ASt → Prop} {Q : Exit → Act → World → Prop} (hi : ops[i]? = some o) (hs : slimO P st.N q ops o = some s) (hR : R P w0 M Z G st a w) (h : GStep P s K st) :
    wpOp P ops Q i (fun a' w' => ∃ st' G', K st' ∧ R P w0 M Z G' st' a' w') a w := by
  unfold slimO at hs
  split at hs
  · rename_i hd0
    have hd : ∀ t, o.dst = some t → t < st.N := by
      intro t ht
      rw [ht] at hd0
      simpa [dstOk] using hd0
    split at hs
    · rename_i hg
      simp only [Option.some.injEq] at hs
      subst hs
      simp only [GStep] at h
      simp only [wpOp, hi]
      rw [if_pos (by simp [Region.wanted, hg])]
      exact .inl (step_sound (weak_weak _ _ _).symm hR hd h)
    · rename_i j want hg
      split at hs
      · rename_i g hj
        split at hs
        · rename_i hlt
          simp only [Option.some.injEq] at hs
          subst hs
          simp only [GStep] at h
          obtain ⟨b, hb, h1, h2⟩ := h
          have hw := wanted_iff (ops := ops) hR hg hj hlt hb
          simp only [wpOp, hi, hw]
          by_cases e : b = want
          · subst e
            rw [if_pos (by simp)]
            exact .inl (step_sound (weak_weak _ _ _).symm hR hd (h1 rfl))
          · rw [if_neg (by simpa using e)]
            have e' : b = !want := by cases b <;> cases want <;> simp_all
            obtain ⟨G', hR'⟩ := hR.res hd (Res.same hR.heap (r := .sc undef) (x := undef) (by simp [Rd]) (by simp [AV.gl]))
            exact ⟨_, G', h2 e', hR'⟩
        · simp at hs
      · simp at hs
  · simp at hs
theorem GStep.mono {o : SOper} {K K' : ASt → Prop} (hk : ∀ s, K s → K' s) (h : GStep P o K st) : GStep P o K' st := by
  unfold GStep at *
  split at h
  · exact h.mono hk
  · obtain ⟨b, hb, h1, h2⟩ := h
    exact ⟨b, hb, fun e => (h1 e).mono hk, fun e => hk _ (h2 e)⟩
theorem AStep.N {s : SOp} {d : Option Nat} {K : ASt → Prop} (h : AStep P s d st K) : AStep P s d st fun s' => K s' ∧ s'.N = st.N := by
  obtain ⟨st', h1, h2⟩ := h.rel
  refine h1.step ⟨h2, ?_⟩
  obtain ⟨r, hp', gc', _, rfl⟩ := h1
  rw [sput_N]
theorem GStep.N {o : SOper} {K : ASt → Prop} (h : GStep P o K st) : GStep P o (fun s' => K s' ∧ s'.N = st.N) st := by
  unfold GStep at *
  split at h
  · exact h.N
  · obtain ⟨b, hb, h1, h2⟩ := h
    exact ⟨b, hb, fun e => (h1 e).N, fun e => ⟨h2 e, sput_N _ _ _⟩⟩
theorem ops_sound {q : Bool} {ops : Array Oper} {N : Nat} {sl : List SOper} (hsl : ops.toList.mapM (slimO P N q ops) = some sl) {K : ASt → Prop} {Q : Exit → Act → World → Prop}
    (hK : ∀ st G a w, K st → R P w0 M Z G st a w → Q .normal a w) (hN : st.N = N) (hR : R P w0 M Z G st a w) (h : AOps P sl K st) : wpOps P ops Q (List.range ops.size) a w := by
  have key : ∀ (l : List Oper) (k : Nat) (r : List SOper), (∀ (i : Nat) (o : Oper), l[i]? = some o → ops[k + i]? = some o) → l.mapM (slimO P N q ops) = some r →
      ∀ (st : ASt) (G : Gh) (a : Act) (w : World), st.N = N → R P w0 M Z G st a w → AOps P r K st → wpOps P ops Q (List.range' k l.length) a w := by
    intro l
    induction l with
    | nil =>
      intro k r _ hr st G a w _ hR h
      simp at hr; subst hr
      simp only [AOps] at h
      simpa [wpOps] using hK st G a w h hR
    | cons o l ih =>
      intro k r hl hr st G a w hN hR h
      simp only [List.mapM_cons, Option.bind_eq_bind, Option.pure_def] at hr
      cases ho : slimO P N q ops o with
      | none => simp [ho] at hr
      | some s =>
        cases hrest : l.mapM (slimO P N q ops) with
        | none => simp [ho, hrest] at hr
        | some r' =>
          simp [ho, hrest] at hr
          subst hr
          rw [AOps_cons] at h
          simp only [List.length_cons, List.range'_succ]
          rw [wpOps_cons]
          have := gstep_sound (Q := Q) (hl 0 o (by simp)) (by rw [hN]; exact ho) hR h.N
          refine wpOp_mono ?_ this
          rintro a' w' ⟨st', G', ⟨hk, hn⟩, hR'⟩
          exact ih (k + 1) r' (fun i o hi => by have := hl (i + 1) o (by simpa using hi); rwa [show k + 1 + i = k + (i + 1) from by omega]) hrest st' G' a' w' (by rw [hn, hN]) hR' hk
  have := key ops.toList 0 sl (fun i o hi => by simpa using hi) hsl st G a w hN hR h
  rw [Array.length_toList] at this
  rw [List.range_eq_range']
  exact this
end
end Go.Proofs.YtbmmdkbinlnogaaDoor.Aw
