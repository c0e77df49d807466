/- Parts of the proofs of Eo. -/
import Derived.Test.YtbmmdkbinlnogaaDoorQEoAJ
import Derived.Test.YtbmmdkbinlnogaaDoorQEoAL
import Derived.Laws.Tables
namespace Go.Proofs.YtbmmdkbinlnogaaDoor.Aw
open Go
set_option linter.unusedSimpArgs false
set_option linter.unusedVariables false
section
variable {P : Program} [Tabs P] {w0 : World} {M : Nat → Prop} {Z : Beg} {G : Gh} {st : ASt} {a : Act} {w : World}
theorem put_size (a : Act) (d : Option Nat) (x : Value) : (a.put d x).tmps.size = a.tmps.size := by cases d <;> simp [Act.put]
theorem put_defers' (a : Act) (d : Option Nat) (x : Value) : (a.put d x).defers = a.defers := by cases d <;> rfl
theorem put_get (a : Act) (d : Option Nat) (x : Value) (t : Nat) : (a.put d x).tmps.getD t undef = if d = some t ∧ t < a.tmps.size then x else a.tmps.getD t undef := by
  cases d with
  | none => simp [Act.put]
  | some d =>
    simp only [Act.put, Array.getD_eq_getD_getElem?, Array.getElem?_setIfInBounds, Option.some.injEq]
    by_cases e : d = t
    · subst e
      by_cases hlt : d < a.tmps.size
      · simp [hlt]
      · simp [hlt]
    · simp [e]
theorem sput_get (st : ASt) (d : Option Nat) (x : AV) (t : Nat) : (st.put d x).tm t = if d = some t then x else st.tm t := by
  cases d with
  | none => simp [ASt.put]
  | some d =>
    simp only [ASt.put, upd, Option.some.injEq]
    by_cases e : t = d
    · simp [e]
    · rw [if_neg e, if_neg (fun h => e h.symm)]
theorem sput_hp (st : ASt) (d : Option Nat) (x : AV) : (st.put d x).hp = st.hp := by cases d <;> rfl
theorem sput_gc (st : ASt) (d : Option Nat) (x : AV) : (st.put d x).gc = st.gc := by cases d <;> rfl
theorem sput_N (st : ASt) (d : Option Nat) (x : AV) : (st.put d x).N = st.N := by cases d <;> rfl
theorem R.res (hR : R P w0 M Z G st a w) {r : AV} {hp' : Hp} {c' : Nat} {x : Value} {w' : World} {d : Option Nat} (hd : ∀ t, d = some t → t < st.N)
    (h : Res st.gc (fun b => w0.heap.size ≤ b ∨ M b) G w r hp' c' x w') : ∃ G', R P w0 M Z G' (ASt.put ⟨st.tm, hp', c', st.N⟩ d r) (a.put d x) w' := by
  obtain ⟨G', hE, hH, hr, hg, hc, hk, hfr⟩ := h
  refine ⟨G', ⟨hR.keep.trans (hk.mono hR.keep.size fun b hb hm => hm.elim (fun h => absurd h (by omega)) id), ?_, ?_, ?_, ?_, ?_, fun b hb => (hfr b hb).elim (hR.fr b) fun h => .inr (h.elim (fun h => .inl (Nat.le_trans hR.keep.size h)) id), hR.ext.trans hR.lc hE, by rw [sput_gc]; exact Nat.le_trans hR.lc hc, hR.lc1, hR.tabs.mono hE.S hE.cells⟩⟩
  · rw [sput_hp, sput_gc]; exact hH
  · rw [put_size, sput_N]; exact hR.size
  · intro t
    rw [sput_get, put_get]
    by_cases e : d = some t
    · rw [if_pos e, if_pos ⟨e, by rw [hR.size]; exact hd t e⟩]
      exact hr
    · rw [if_neg e, if_neg (fun h => e h.1)]
      exact Rd.mono hE _ _ (hR.gl t) (hR.tm t)
  · intro t
    rw [sput_get, sput_gc]
    split
    · exact hg
    · exact gl_mono hc _ (hR.gl t)
  · rw [put_defers']; exact hR.defers
mutual
theorem Rd.of_flat {G G' : Gh} {w w' : World} : ∀ (x : AV) (v : Value), x.flat = true → Rd G w x v → Rd G' w' x v
  | .junk, _, _, _ => by simp [Rd]
  | .sc u, v, _, hr => by simpa [Rd] using hr
  | .agg xs, v, hg, hr => by
    simp only [Rd] at hr ⊢
    obtain ⟨cs, rfl, hr, h1⟩ := hr
    exact ⟨cs, rfl, RdL.of_flat xs cs (by simpa [AV.flat] using hg) hr, h1⟩
  | .tup xs, v, hg, hr => by
    simp only [Rd] at hr ⊢
    obtain ⟨cs, rfl, hr⟩ := hr
    exact ⟨cs, rfl, RdL.of_flat xs cs (by simpa [AV.flat] using hg) hr⟩
  | .sl _ _ _, _, hg, _ => by simp [AV.flat] at hg
  | .fp _ _, _, hg, _ => by simp [AV.flat] at hg
  | .own _ _ _ _ _, _, hg, _ => by simp [AV.flat] at hg
  | .op _ _ _, _, hg, _ => by simp [AV.flat] at hg
  | .mp _ _, _, hg, _ => by simp [AV.flat] at hg
  | .clo _ _, _, hg, _ => by simp [AV.flat] at hg
theorem RdL.of_flat {G G' : Gh} {w w' : World} : ∀ (xs : List AV) (vs : List Value), AV.flat.flatL xs = true → RdL G w xs vs → RdL G' w' xs vs
  | [], vs, _, hr => by simpa [RdL] using hr
  | x :: xs, vs, hg, hr => by
    simp only [RdL] at hr ⊢
    obtain ⟨v, r, rfl, h1, h2⟩ := hr
    simp only [AV.flat.flatL, Bool.and_eq_true] at hg
    exact ⟨v, r, rfl, Rd.of_flat x v hg.1 h1, RdL.of_flat xs r hg.2 h2⟩
end
theorem run_v {P : Program} {s : Sem Value} {x : Value} {w' : World} (h : s.run P w = .ok x w') : ((do pure (Next.value (← s))) : Sem Next).run P w = .ok (.value x) w' := by simp [h]
theorem run_u {P : Program} {s : Sem Unit} {w' : World} (h : s.run P w = .ok () w') : ((do s; pure Next.skip) : Sem Next).run P w = .ok .skip w' := by simp [h]
def Goes (P : Program) [Tabs P] (w0 : World) (M : Nat → Prop) (st : ASt) (a : Act) (w : World) (o : Oper) (G : Gh) (r : AV) (hp' : Hp) (c' : Nat) : Prop :=
  ∃ x w', ((execOp a.eval o).run P w = .ok (.value x) w' ∨ ((execOp a.eval o).run P w = .ok .skip w' ∧ x = undef)) ∧ Res st.gc (fun b => w0.heap.size ≤ b ∨ M b) G w r hp' c' x w'
theorem Goes.wp {o : Oper} {r : AV} {hp' : Hp} {c' : Nat} {K : ASt → Prop} {Q : Exit → Act → World → Prop} (hR : R P w0 M Z G st a w) (hd : ∀ t, o.dst = some t → t < st.N) (h : Goes P w0 M st a w o G r hp' c')
    (hK : K (ASt.put ⟨st.tm, hp', c', st.N⟩ o.dst r)) : o.wp P a w (fun a' w' => ∃ st' G', K st' ∧ R P w0 M Z G' st' a' w') Q := by
  obtain ⟨x, w', hrun, hres⟩ := h
  obtain ⟨G', hR'⟩ := hR.res hd hres
  unfold Oper.wp
  rcases hrun with hrun | ⟨hrun, rfl⟩
  · rw [hrun]; exact ⟨_, G', hK, hR'⟩
  · rw [hrun]; exact ⟨_, G', hK, hR'⟩
theorem Goes.pure {o : Oper} {r : AV} {x : Value} (hR : R P w0 M Z G st a w) (hrun : (execOp a.eval o).run P w = .ok (.value x) w) (hx : Rd G w r x) (hg : r.gl st.gc) : Goes P w0 M st a w o G r st.hp st.gc :=
  ⟨x, w, .inl hrun, Res.same hR.heap hx hg⟩
theorem evo_sound (hR : R P w0 M Z G st a w) (x : Option Operand) : (∀ v, x.map (ev P st) = some v → ∃ u, x.map a.eval = some u ∧ Rd G w v u) ∧ (x.map (ev P st) = none → x.map a.eval = none) := by
  cases x with
  | none => simp
  | some x => simp [hR.ev x]
theorem hMx (hR : R P w0 M Z G st a w) : ∀ b, w.heap.size ≤ b → (w0.heap.size ≤ b ∨ M b) := fun b hb => .inl (Nat.le_trans hR.keep.size hb)
def plainV : Value → Bool
  | .int _ _ | .string _ | .bool _ | .slice _ _ _ | .pointer _ => true
  | _ => false
theorem eqGuard_run {P : Program} (op : BinOp) (T : TypeId) (x y : Operand) {u v : Value} (h : plainV u = true) : (eqGuard op T x y u v).run P w = .ok () w := by
  cases op <;> simp only [eqGuard] <;> cases u <;> simp [plainV] at h ⊢
theorem aBin_plain {op : BinOp} {x y : AV} {vx : Value} (h : (aBin op x y).1) (hx : Rd G w x vx) : plainV vx = true := by
  unfold aBin at h
  split at h
  · rw [hx.sc_inv]; rfl
  · rw [hx.sc_inv]; rfl
  · simp [stuckR] at h
theorem aBeq_plain {neg : Bool} {x y : AV} {vx : Value} (h : (aBeq neg x y).1) (hx : Rd G w x vx) : plainV vx = true := by
  unfold aBeq at h
  split at h
  · rw [hx.sc_inv]; rfl
  · simp [stuckR] at h
theorem aIsnil_plain {neg : Bool} {x : AV} {vx : Value} (h : (aIsnil neg x).1) (hx : Rd G w x vx) : plainV vx = true := by
  unfold aIsnil at h
  split at h
  · simp only [Rd] at hx
    obtain ⟨base, len, cap, vs, rfl, _⟩ := hx
    rfl
  · rw [hx.sc_inv]; rfl
  · simp [stuckR] at h
theorem aIsnil_flat {neg : Bool} {x : AV} (h : (aIsnil neg x).1) : (aIsnil neg x).2.flat = true := by
  unfold aIsnil at *
  split at h
  · rfl
  · rfl
  · simp [stuckR] at h
theorem aIsnilp_plain {neg : Bool} {x : AV} {vx : Value} (h : (aIsnilp neg x).1) (hx : Rd G w x vx) : plainV vx = true := by
  unfold aIsnilp at h
  split at h
  · simp only [Rd] at hx
    obtain ⟨u, b, o', _, rfl, _⟩ := hx
    rfl
  · simp only [Rd] at hx
    obtain ⟨⟨a, rfl⟩, _⟩ := hx
    rfl
  · rw [hx.sc_inv]; rfl
  · simp [stuckR] at h
theorem aStrId_sound {x : AV} {vx : Value} (h : (aStrId x).1) (hx : Rd G w x vx) : ∃ sv, vx = .string sv ∧ Rd G w x (.string sv) := by
  unfold aStrId at h
  split at h
  · have := hx.sc_inv; subst this; exact ⟨_, rfl, hx⟩
  · simp [stuckR] at h
theorem placesOk_mapM {places : Nat → Option (Nat × Nat)} : ∀ (l : List (Nat × Operand)) (ps : List (Nat × Nat × Operand)), l.mapM (fun p => (places p.1).map fun q => (q.1, q.2, p.2)) = some ps → placesOk places l ps
  | [], ps, h => by simp at h; subst h; simp [placesOk]
  | p :: l, ps, h => by
    simp only [List.mapM_cons, Option.bind_eq_bind, Option.pure_def] at h
    cases hp : places p.1 with
    | none => simp [hp] at h
    | some q =>
      cases hr : l.mapM (fun p => (places p.1).map fun q => (q.1, q.2, p.2)) with
      | none => simp [hp, hr] at h
      | some rest =>
        simp [hp, hr] at h
        subst h
        simp only [placesOk]
        exact ⟨q.1, q.2, rest, rfl, hp, placesOk_mapM l rest hr⟩
theorem placesOk_map {n : Nat} : ∀ (l : List (Nat × Operand)), placesOk (fun i => some (i * n, n)) l (l.map fun p => (p.1 * n, n, p.2))
  | [] => by simp [placesOk]
  | p :: l => by
    simp only [List.map_cons, placesOk]
    exact ⟨_, _, _, rfl, rfl, placesOk_map l⟩
theorem partsIn_spec {n : Nat} {parts : Array (Nat × Operand)} (h : partsIn n parts.toList = true) : (parts.toList.map (·.2)).length = n ∧ parts = ((List.range n).zip (parts.toList.map (·.2))).toArray := by
  have h : parts.toList.map (·.1) = List.range n := by simpa [partsIn] using h
  have hl : parts.toList.length = n := by
    have := congrArg List.length h
    simpa using this
  refine ⟨by rw [List.length_map, hl], ?_⟩
  rw [← h]
  have : (parts.toList.map (·.1)).zip (parts.toList.map (·.2)) = parts.toList := by
    induction parts.toList with
    | nil => rfl
    | cons p l ih => simp [ih]
  rw [this]
theorem pv_sound {o : Oper} {s : SOp} (hs : slimOp P o = s) (hR : R P w0 M Z G st a w) (h : (pv s (ev P st) st.hp).1) : Goes P w0 M st a w o G (pv s (ev P st) st.hp).2 st.hp st.gc := by
  have hX : ∀ {s' : SOp}, SOp.no = s' → (pv s' (ev P st) st.hp).1 → False := fun e h => by subst e; simp [pv, stuckR] at h
  cases hop : o.op with
  | move x =>
    simp only [slimOp, hop] at hs; subst hs
    exact .pure hR (by simp [execOp, hop]) (hR.ev x) (hR.evgl x)
  | assign x =>
    simp only [slimOp, hop] at hs; subst hs
    exact .pure hR (by simp [execOp, hop]) (hR.ev x) (hR.evgl x)
  | pick c x y =>
    simp only [slimOp, hop] at hs; subst hs
    obtain ⟨t, h1, h2, h3⟩ := aPick_sound h (hR.ev c) (hR.ev x) (hR.ev y) (hR.evgl x) (hR.evgl y)
    exact .pure hR (by simp [execOp, hop, h1, asBool]) h2 h3
  | binOp op T x y yT =>
    simp only [slimOp, hop] at hs
    have hbin : s = .bin op x y → Goes P w0 M st a w o G (pv s (ev P st) st.hp).2 st.hp st.gc := by
      rintro rfl
      obtain ⟨v, h1, h2, h3⟩ := aBin_sound (P := P) (T := T) (c := st.gc) h (hR.ev x) (hR.ev y)
      have hg := eqGuard_run (P := P) (w := w) op T x y (v := a.eval y) (aBin_plain h (hR.ev x))
      refine .pure hR (x := v) ?_ h2 h3
      simp only [execOp, hop]
      exact run_v (by simp [hg, h1])
    have haeq : ∀ (z : Value) (neg : Bool), (match P.underlying T with | some (.array _ _) | some (.struct _) => true | _ => false) = true → keyZ P T = some z → ¬ P.eqGuardType P.depth T = true → op = (if neg then .neq else .eql) → s = .aeq neg z x y → Goes P w0 M st a w o G (pv s (ev P st) st.hp).2 st.hp st.gc := by
      rintro z neg hT hz hgt rfl rfl
      obtain ⟨v, h1, h2, h3⟩ := aAeq_sound (P := P) (c := st.gc) (w := w) hT hz (by simpa using hgt) x y h (hR.ev x) (hR.ev y)
      refine .pure hR (x := v) ?_ h2 h3
      simp only [execOp, hop]
      exact run_v h1
    split at hs
    · exact hbin hs.symm
    · exact hbin hs.symm
    · rename_i hT
      split at hs
      · subst hs
        obtain ⟨v, h1, h2, h3⟩ := aBeq_sound (P := P) (c := st.gc) hT h (hR.ev x) (hR.ev y)
        have hg := eqGuard_run (P := P) (w := w) .eql T x y (v := a.eval y) (aBeq_plain h (hR.ev x))
        refine .pure hR (x := v) ?_ h2 h3
        simp only [execOp, hop]
        exact run_v (by simp at h1; simp [hg, h1])
      · subst hs
        obtain ⟨v, h1, h2, h3⟩ := aBeq_sound (P := P) (c := st.gc) hT h (hR.ev x) (hR.ev y)
        have hg := eqGuard_run (P := P) (w := w) .neq T x y (v := a.eval y) (aBeq_plain h (hR.ev x))
        refine .pure hR (x := v) ?_ h2 h3
        simp only [execOp, hop]
        exact run_v (by simp at h1; simp [hg, h1])
      · exact (hX hs h).elim
    · rename_i e hT
      split at hs
      · rename_i hy
        have hyv : a.eval y = .slice none 0 0 := by
          unfold plainInt at hy
          split at hy
          · rfl
          · simp at hy
        split at hs
        · subst hs
          have hf := frz_sound hR.heap _ _ (hR.evgl x) (hR.ev x)
          obtain ⟨v, h1, h2, h3⟩ := aIsnil_sound (P := P) (c := st.gc) hT h hf
          have hg := eqGuard_run (P := P) (w := w) .eql T x y (v := a.eval y) (aIsnil_plain h hf)
          refine .pure hR (x := v) ?_ (Rd.of_flat _ _ (aIsnil_flat h) h2) h3
          simp only [execOp, hop]
          rw [hyv] at hg
          exact run_v (by simp at h1; simp [hyv, hg, h1])
        · subst hs
          have hf := frz_sound hR.heap _ _ (hR.evgl x) (hR.ev x)
          obtain ⟨v, h1, h2, h3⟩ := aIsnil_sound (P := P) (c := st.gc) hT h hf
          have hg := eqGuard_run (P := P) (w := w) .neq T x y (v := a.eval y) (aIsnil_plain h hf)
          refine .pure hR (x := v) ?_ (Rd.of_flat _ _ (aIsnil_flat h) h2) h3
          simp only [execOp, hop]
          rw [hyv] at hg
          exact run_v (by simp at h1; simp [hyv, hg, h1])
        · exact (hX hs h).elim
      · exact (hX hs h).elim
    · rename_i e hT
      split at hs
      · rename_i hy
        have hyv : a.eval y = .pointer none := by
          unfold plainPtr at hy
          split at hy
          · rfl
          · simp at hy
        split at hs
        · subst hs
          obtain ⟨v, h1, h2, h3⟩ := aIsnilp_sound (P := P) hT h (hR.ev x)
          have hg := eqGuard_run (P := P) (w := w) .eql T x y (v := a.eval y) (aIsnilp_plain h (hR.ev x))
          refine .pure hR (x := v) ?_ h2 h3
          simp only [execOp, hop]
          rw [hyv] at hg
          exact run_v (by simp at h1; simp [hyv, hg, h1])
        · subst hs
          obtain ⟨v, h1, h2, h3⟩ := aIsnilp_sound (P := P) hT h (hR.ev x)
          have hg := eqGuard_run (P := P) (w := w) .neq T x y (v := a.eval y) (aIsnilp_plain h (hR.ev x))
          refine .pure hR (x := v) ?_ h2 h3
          simp only [execOp, hop]
          rw [hyv] at hg
          exact run_v (by simp at h1; simp [hyv, hg, h1])
        · exact (hX hs h).elim
      · exact (hX hs h).elim
    · rename_i hT
      split at hs
      · rename_i z hz
        split at hs
        · exact (hX hs h).elim
        · rename_i hgt
          split at hs
          · exact haeq z false (by rw [hT]) hz hgt rfl hs.symm
          · exact haeq z true (by rw [hT]) hz hgt rfl hs.symm
          · exact (hX hs h).elim
      · exact (hX hs h).elim
    · rename_i hT
      split at hs
      · rename_i z hz
        split at hs
        · exact (hX hs h).elim
        · rename_i hgt
          split at hs
          · exact haeq z false (by rw [hT]) hz hgt rfl hs.symm
          · exact haeq z true (by rw [hT]) hz hgt rfl hs.symm
          · exact (hX hs h).elim
      · exact (hX hs h).elim
    · exact (hX hs h).elim
  | unOp op T x =>
    simp only [slimOp, hop] at hs; subst hs
    obtain ⟨v, h1, h2, h3⟩ := aUn_sound (P := P) (c := st.gc) h (hR.ev x)
    exact .pure hR (by simp only [execOp, hop]; exact run_v h1) h2 h3
  | convert S D x =>
    simp only [slimOp, hop] at hs
    split at hs
    · rename_i k k' hS hD
      subst hs
      obtain ⟨kk, n, h1, h2⟩ := aCi_sound h (hR.ev x)
      refine .pure hR (x := .int k' (k'.wrap n)) ?_ (by simp only [pv]; rw [h2]; simp [Rd]) (by simp only [pv]; rw [h2]; simp [AV.gl])
      simp only [execOp, hop]
      refine run_v ?_
      rw [h1]
      simp [convert, underlying, hS, hD, Conv.intToInt]
    · rename_i hS hD
      subst hs
      obtain ⟨sv, h1, h2⟩ := aStrId_sound h (hR.ev x)
      refine .pure hR (x := .string sv) ?_ h2 (hR.evgl x)
      simp only [execOp, hop]
      refine run_v ?_
      rw [h1]
      simp [convert, underlying, hS, hD]
    · rename_i e hS hD
      split at hs
      · rename_i he
        subst hs
        obtain ⟨v, h1, h2, h3⟩ := aB2s_sound (P := P) hS hD he hR.heap h (hR.ev x) (hR.evgl x)
        exact .pure hR (by simp only [execOp, hop]; exact run_v h1) h2 h3
      · exact (hX hs h).elim
    · rename_i e hS hD
      split at hs
      · rename_i he
        subst hs
        obtain ⟨v, w', h1, h2⟩ := aS2b_sound (P := P) hS hD he hR.heap h (hR.ev x)
        exact ⟨v, w', .inl (by simp only [execOp, hop]; exact run_v h1), h2⟩
      · exact (hX hs h).elim
    · split at hs
      · split at hs
        · subst hs; simp [pv, stuckR] at h
        · exact (hX hs h).elim
      · exact (hX hs h).elim
    · exact (hX hs h).elim
  | slice T x lo hi mx =>
    cases mx with
    | some m =>
      cases hi with
      | none => simp only [slimOp, hop] at hs; exact (hX hs h).elim
      | some hi =>
        simp only [slimOp, hop] at hs
        have hlo := evo_sound hR lo
        split at hs
        · rename_i e hT
          split at hs
          · rename_i es hE
            subst hs
            obtain ⟨v, h1, h2, h3⟩ := aSl3_sound (P := P) hT hE h (hR.ev x) (hR.evgl x) hlo.1 hlo.2 (hR.ev hi) (hR.ev m)
            exact .pure hR (by simp only [execOp, hop]; exact run_v h1) h2 h3
          · exact (hX hs h).elim
        · exact (hX hs h).elim
    | none =>
      simp only [slimOp, hop] at hs
      have hlo := evo_sound hR lo
      have hhi := evo_sound hR hi
      split at hs
      · rename_i hT
        subst hs
        obtain ⟨v, h1, h2, h3⟩ := aSls_sound (P := P) (c := st.gc) h (hR.ev x) hT hlo.1 hlo.2 hhi.1 hhi.2
        exact .pure hR (by simp only [execOp, hop]; exact run_v h1) h2 h3
      · rename_i e hT
        split at hs
        · rename_i es hE
          subst hs
          obtain ⟨v, h1, h2, h3⟩ := aSl_sound (P := P) hT hE h (hR.ev x) (hR.evgl x) hlo.1 hlo.2 hhi.1 hhi.2
          exact .pure hR (by simp only [execOp, hop]; exact run_v h1) h2 h3
        · exact (hX hs h).elim
      · rename_i n e hT
        split at hs
        · rename_i es hE
          subst hs
          obtain ⟨v, h1, h2, h3⟩ := aSla_sound (P := P) hR.heap hT hE h (hR.ev x) (hR.evgl x) hlo.1 hlo.2 hhi.1 hhi.2
          exact .pure hR (by simp only [execOp, hop]; exact run_v h1) h2 h3
        · exact (hX hs h).elim
      · exact (hX hs h).elim
  | fieldAddr S x f =>
    simp only [slimOp, hop] at hs
    split at hs
    · rename_i fs hS
      split at hs
      · rename_i fd hf
        split at hs
        · exact (hX hs h).elim
        · rename_i hz
          subst hs
          obtain ⟨v, h1, h2, h3⟩ := aFaddr_sound (P := P) hS hf hz h (hR.ev x) (hR.evgl x)
          exact .pure hR (by simp only [execOp, hop]; exact run_v h1) h2 h3
      · exact (hX hs h).elim
    · exact (hX hs h).elim
  | field T x f =>
    simp only [slimOp, hop] at hs
    split at hs
    · rename_i fs hS
      split at hs
      · rename_i fd hf
        split at hs
        · rename_i sz hz
          subst hs
          obtain ⟨v, h1, h2, h3⟩ := aFld_sound (P := P) hS hf hz h (hR.ev x) (hR.evgl x)
          exact .pure hR (by simp only [execOp, hop]; exact run_v h1) h2 h3
        · exact (hX hs h).elim
      · exact (hX hs h).elim
    · exact (hX hs h).elim
  | indexAddr T x i =>
    simp only [slimOp, hop] at hs
    split at hs
    · rename_i e hT
      split at hs
      · rename_i es hE
        subst hs
        obtain ⟨v, h1, h2, h3⟩ := aIaddr_sound (P := P) hT hE h (hR.ev x) (hR.ev i) (hR.evgl x)
        exact .pure hR (by simp only [execOp, hop]; exact run_v h1) h2 h3
      · exact (hX hs h).elim
    · rename_i n e hT
      split at hs
      · rename_i es hE
        subst hs
        obtain ⟨v, h1, h2, h3⟩ := aIaddrA_sound (P := P) hT hE h (hR.ev x) (hR.ev i) (hR.evgl x)
        exact .pure hR (by simp only [execOp, hop]; exact run_v h1) h2 h3
      · exact (hX hs h).elim
    · exact (hX hs h).elim
  | index T x i =>
    simp only [slimOp, hop] at hs
    split at hs
    · rename_i hT
      subst hs
      obtain ⟨v, h1, h2, h3⟩ := aIdxS_sound (P := P) (c := st.gc) hT h (hR.ev x) (hR.ev i)
      exact .pure hR (by simp only [execOp, hop]; exact run_v h1) h2 h3
    · rename_i n e hT
      split at hs
      · rename_i es hE
        subst hs
        obtain ⟨v, h1, h2, h3⟩ := aIdxA_sound (P := P) hT hE h (hR.ev x) (hR.ev i) (hR.evgl x)
        exact .pure hR (by simp only [execOp, hop]; exact run_v h1) h2 h3
      · exact (hX hs h).elim
    · exact (hX hs h).elim
  | load T x =>
    simp only [slimOp, hop] at hs
    split at hs
    · rename_i sz hT
      subst hs
      obtain ⟨v, h1, h2, h3⟩ := aLoad_sound (P := P) hR.heap hT h (hR.ev x) (hR.evgl x)
      exact .pure hR (by simp only [execOp, hop]; exact run_v h1) h2 h3
    · exact (hX hs h).elim
  | makeFunc fn first caps =>
    cases fn with
    | func f =>
      simp only [slimOp, hop] at hs
      split at hs
      · rename_i hf
        subst hs
        have hf : first = #[] := by simpa using hf
        have hgl : ∀ l : List Operand, AV.gl.glL st.gc (l.map (ev P st)) := by
          intro l
          induction l with
          | nil => simp [AV.gl.glL]
          | cons x l ih => simp only [List.map_cons, AV.gl.glL]; exact ⟨hR.evgl x, ih⟩
        refine .pure hR (x := .func (.func f) #[] (caps.map a.eval)) (by simp [execOp, hop, Instr.makeFunc, hf]) ?_ (by simp only [pv, AV.gl]; exact hgl _)
        simp only [pv, Rd]
        exact ⟨caps.toList.map a.eval, by rw [← Array.toList_map], rdL_map hR.ev _⟩
      · exact (hX hs h).elim
    | _ => simp only [slimOp, hop] at hs; exact (hX hs h).elim
  | makeMap t r =>
    cases r with
    | none => simp only [slimOp, hop] at hs; subst hs; simp [pv, stuckR] at h
    | some r => cases r with
      | const v => cases v with
        | int k n => exfalso; revert h; subst hs; simp only [slimOp, hop]; (repeat' split) <;> simp [pv, stuckR]
        | _ => simp only [slimOp, hop] at hs; exact (hX hs h).elim
      | _ => simp only [slimOp, hop] at hs; exact (hX hs h).elim
  | mapUpdate t m k v =>
    exfalso; revert h; subst hs; simp only [slimOp, hop]; (repeat' split) <;> simp [pv, stuckR]
  | lookup T x k ok =>
    simp only [slimOp, hop] at hs
    split at hs
    · rename_i kt e hT
      split at hs
      · rename_i z zv hz hzv
        split at hs
        · rename_i hone
          subst hs
          obtain ⟨i, hi, hzz⟩ := Option.bind_eq_some_iff.1 hzv
          obtain ⟨v, h1, h2, h3⟩ := aMget_sound (P := P) hT hz hi hzz hone hR.heap h (hR.ev x) (hR.ev k)
          exact .pure hR (by simp only [execOp, hop]; exact run_v h1) h2 h3
        · exact (hX hs h).elim
      · exact (hX hs h).elim
    · exact (hX hs h).elim
  | extract x i =>
    simp only [slimOp, hop] at hs; subst hs
    obtain ⟨v, h1, h2, h3⟩ := aExt_sound (P := P) h (hR.ev x) (hR.evgl x)
    exact .pure hR (by simp only [execOp, hop]; exact run_v h1) h2 h3
  | nilCheck x =>
    simp only [slimOp, hop] at hs; subst hs
    obtain ⟨⟨p, h1⟩, h2, h3⟩ := aNilc_sound h (hR.ev x) (hR.evgl x)
    refine .pure hR (x := a.eval x) ?_ h2 h3
    simp only [execOp, hop]
    rw [h1]
    rfl
  | build T parts =>
    simp only [slimOp, hop] at hs
    split at hs
    · rename_i z fs hz hT
      split at hs
      · rename_i places hpl
        split at hs
        · rename_i ps hps
          subst hs
          obtain ⟨i, zv, hi, hzz, rfl, h1⟩ := zeroT_spec hz
          obtain ⟨out, k1, k2, k3⟩ := fill_sound (c := st.gc) (G := G) (w := w) (e := ev P st) (ρ := a.eval) hR.ev hR.evgl (place := (places.toArray[·]?)) parts.toList ps zv.cells _ (placesOk_mapM _ _ hps) (rdL_sc _) h1 (glL_sc _) h
          refine .pure hR (x := .agg out) ?_ k2 k3
          simp only [execOp, hop]
          refine run_v (run_build w T _ out ?_)
          unfold Program.built
          rw [hi, hT]
          simp only [hzz]
          rw [hpl]
          simpa using k1
        · exact (hX hs h).elim
      · exact (hX hs h).elim
    · rename_i z n e hz hT
      split at hs
      · rename_i ie hie
        subst hs
        obtain ⟨i, zv, hi, hzz, rfl, h1⟩ := zeroT_spec hz
        obtain ⟨out, k1, k2, k3⟩ := fill_sound (c := st.gc) (G := G) (w := w) (e := ev P st) (ρ := a.eval) hR.ev hR.evgl (place := fun i => some (i * ie.size, ie.size)) parts.toList _ zv.cells _ (placesOk_map _) (rdL_sc _) h1 (glL_sc _) h
        refine .pure hR (x := .agg out) ?_ k2 k3
        simp only [execOp, hop]
        refine run_v (run_build w T _ out ?_)
        unfold Program.built
        rw [hi, hT]
        simp only [hzz, hie]
        simpa using k1
      · exact (hX hs h).elim
    · exact (hX hs h).elim
  | buildSlice T len parts =>
    simp only [slimOp, hop] at hs
    split at hs
    · rename_i e hT
      split at hs
      · rename_i es z hE hz
        split at hs
        · rename_i hcond
          simp only [Bool.and_eq_true, decide_eq_true_eq] at hcond
          obtain ⟨⟨⟨⟨c1, c2⟩, c3⟩, c4⟩, c5⟩ := hcond
          subst hs
          obtain ⟨i, zv, hi, hzz, rfl, h1⟩ := zeroT_spec hz
          obtain ⟨hl, hp⟩ := partsIn_spec c2
          have hes : 0 < zv.cells.size := by rw [Array.length_toList] at c1; omega
          obtain ⟨v, w', k1, k2⟩ := aBslice_sound (P := P) hT hE hi hzz hR.heap (e := ev P st) (ρ := a.eval) hR.ev hR.evgl (parts.toList.map fun p : Nat × Operand => p.2) (by omega) c4 (by rw [hl]; exact c5) (by
            intro u hu
            simp only [Array.toList_map, List.mem_map, Array.toList_range, List.mem_range] at hu
            obtain ⟨k, _, rfl⟩ := hu
            have hlt : k % zv.cells.size < zv.cells.size := Nat.mod_lt _ hes
            have e1 : zv.cells[k % zv.cells.size]! = zv.cells[k % zv.cells.size]'hlt := getElem!_pos zv.cells _ hlt
            rw [e1]
            exact h1 _ (by simp)) h
          refine ⟨v, w', .inl ?_, k2⟩
          simp only [execOp, hop]
          refine run_v ?_
          rw [hl] at k1
          rw [← hp] at k1
          exact k1
        · split at hs
          · subst hs; simp [pv, stuckR] at h
          · exact (hX hs h).elim
      · exact (hX hs h).elim
    · exact (hX hs h).elim
  | call cl =>
    simp only [slimOp, hop] at hs
    split at hs
    · rename_i hc
      split at hs
      · rename_i x t hargs htys
        have hargs' : cl.args = #[x] := by rw [← Array.toList_inj]; simpa using hargs
        have htys' : cl.argTypes = #[t] := by rw [← Array.toList_inj]; simpa using htys
        have hex : execOp a.eval o = (do pure (.value (← Builtin.len_ #[t] o.type #[a.eval x]))) := by
          simp [execOp, hop, resolve, hc, invoke, builtin, hargs', htys']
        split at hs
        · rename_i hT
          subst hs
          obtain ⟨v, h1, h2, h3⟩ := aLenS_sound (P := P) (ty := o.type) (c := st.gc) hT h (hR.ev x)
          exact .pure hR (by rw [hex]; exact run_v h1) h2 h3
        · rename_i e hT
          subst hs
          obtain ⟨v, h1, h2, h3⟩ := aLen_sound (P := P) (ty := o.type) hT h (hR.ev x)
          exact .pure hR (by rw [hex]; exact run_v h1) h2 h3
        · rename_i kt e hT
          subst hs
          obtain ⟨v, h1, h2, h3⟩ := aMlen_sound (P := P) (ty := o.type) hT hR.heap h (hR.ev x)
          exact .pure hR (by rw [hex]; exact run_v h1) h2 h3
        · exact (hX hs h).elim
      · exact (hX hs h).elim
    · split at hs
      · split at hs
        · split at hs
          · subst hs; simp [pv, stuckR] at h
          · exact (hX hs h).elim
        · exact (hX hs h).elim
      · exact (hX hs h).elim
    · rename_i hc
      split at hs
      · rename_i x y xs hargs
        subst hs
        have hargs' : cl.args = (x :: y :: xs).toArray := by rw [← Array.toList_inj]; simpa using hargs
        obtain ⟨v, h1, h2, h3⟩ := aMm_sound (P := P) (mx := false) h (hR.ev x) (hR.evgl x) (rdL_map hR.ev (y :: xs))
        have hex : execOp a.eval o = (do pure (.value (← Builtin.min_ cl.argTypes o.type ((x :: y :: xs).map a.eval).toArray))) := by
          simp [execOp, hop, resolve, hc, invoke, builtin, hargs']
        refine .pure hR (x := v) ?_ h2 h3
        rw [hex]
        exact run_v h1
      · exact (hX hs h).elim
    · rename_i hc
      split at hs
      · rename_i x y xs hargs
        subst hs
        have hargs' : cl.args = (x :: y :: xs).toArray := by rw [← Array.toList_inj]; simpa using hargs
        obtain ⟨v, h1, h2, h3⟩ := aMm_sound (P := P) (mx := true) h (hR.ev x) (hR.evgl x) (rdL_map hR.ev (y :: xs))
        have hex : execOp a.eval o = (do pure (.value (← Builtin.max_ cl.argTypes o.type ((x :: y :: xs).map a.eval).toArray))) := by
          simp [execOp, hop, resolve, hc, invoke, builtin, hargs']
        refine .pure hR (x := v) ?_ h2 h3
        rw [hex]
        exact run_v h1
      · exact (hX hs h).elim
    · split at hs
      · split at hs
        · split at hs
          · split at hs
            · split at hs
              · subst hs; simp [pv, stuckR] at h
              · exact (hX hs h).elim
            · exact (hX hs h).elim
          · exact (hX hs h).elim
        · split at hs
          · split at hs
            · subst hs; simp [pv, stuckR] at h
            · exact (hX hs h).elim
          · exact (hX hs h).elim
        · split at hs
          · split at hs
            · subst hs; simp [pv, stuckR] at h
            · exact (hX hs h).elim
          · exact (hX hs h).elim
        · exact (hX hs h).elim
      · exact (hX hs h).elim
    · split at hs
      · split at hs
        · split at hs
          · subst hs; simp [pv, stuckR] at h
          · exact (hX hs h).elim
        · exact (hX hs h).elim
      · exact (hX hs h).elim
    · rename_i hc
      split at hs
      · rename_i x t hargs htys
        have hargs' : cl.args = #[x] := by rw [← Array.toList_inj]; simpa using hargs
        have htys' : cl.argTypes = #[t] := by rw [← Array.toList_inj]; simpa using htys
        have hex : execOp a.eval o = (do pure (.value (← Builtin.cap_ #[t] o.type #[a.eval x]))) := by
          simp [execOp, hop, resolve, hc, invoke, builtin, hargs', htys']
        split at hs
        · rename_i e hT
          subst hs
          obtain ⟨v, h1, h2, h3⟩ := aCapn_sound (P := P) (ty := o.type) (c := st.gc) hT h (hR.ev x)
          exact .pure hR (by rw [hex]; exact run_v h1) h2 h3
        · exact (hX hs h).elim
      · exact (hX hs h).elim
    · split at hs
      · split at hs
        · subst hs; simp [pv, stuckR] at h
        · exact (hX hs h).elim
      · exact (hX hs h).elim
    · subst hs; simp [pv, stuckR] at h
    · exact (hX hs h).elim
  | alloc t => simp only [slimOp, hop] at hs; split at hs <;> (subst hs; simp [pv, stuckR] at h)
  | box t x => simp only [slimOp, hop] at hs; subst hs; simp [pv, stuckR] at h
  | store t x v => simp only [slimOp, hop] at hs; split at hs <;> (subst hs; simp [pv, stuckR] at h)
  | makeSlice t l c =>
    simp only [slimOp, hop] at hs
    split at hs
    · split at hs
      · split at hs <;> (subst hs; simp [pv, stuckR] at h)
      · exact (hX hs h).elim
    · exact (hX hs h).elim
  | _ => simp only [slimOp, hop] at hs; exact (hX hs h).elim
theorem hv_sound {o : Oper} {s : SOp} (hs : slimOp P o = s) (hR : R P w0 M Z G st a w) (d : Nat) (h : (hv s (ev P st) st.hp st.gc d).1) :
    Goes P w0 M st a w o G (hv s (ev P st) st.hp st.gc d).2.1 (hv s (ev P st) st.hp st.gc d).2.2.1 (hv s (ev P st) st.hp st.gc d).2.2.2 := by
  have hMx := hMx hR
  cases hop : o.op with
  | alloc t =>
    simp only [slimOp, hop] at hs
    split at hs
    · rename_i z hz
      subst hs
      obtain ⟨v, w', h1, h2⟩ := alloc_sound (P := P) hz hR.heap hMx d
      exact ⟨v, w', .inl (by simp only [execOp, hop]; exact run_v h1), h2⟩
    · subst hs; simp [hv] at h
  | box t x =>
    simp only [slimOp, hop] at hs
    subst hs
    obtain ⟨v, w', h1, h2⟩ := aBox_sound (P := P) (T := t) hR.heap hMx d (hR.ev x) (hR.evgl x) h
    exact ⟨v, w', .inl (by simp only [execOp, hop]; exact run_v h1), h2⟩
  | buildSlice T len parts =>
    simp only [slimOp, hop] at hs
    split at hs
    · rename_i e hT
      split at hs
      · rename_i es z hE hz
        split at hs
        · subst hs; simp [hv] at h
        · split at hs
          · rename_i hc
            simp only [Bool.and_eq_true, decide_eq_true_eq, List.isEmpty_iff] at hc
            obtain ⟨rfl, hp⟩ := hc
            have hp' : parts = #[] := by rw [← Array.toList_inj]; simpa using hp
            subst hp'
            subst hs
            obtain ⟨v, w', k1, k2⟩ := emp_sound (P := P) hT hE hR.heap hMx d
            exact ⟨v, w', .inl (by simp only [execOp, hop]; exact run_v (by simpa using k1)), k2⟩
          · subst hs; simp [hv] at h
      · subst hs; simp [hv] at h
    · subst hs; simp [hv] at h
  | store t x v =>
    simp only [slimOp, hop] at hs
    split at hs
    · rename_i sz hT
      subst hs
      obtain ⟨w', h1, h2⟩ := aStore_sound (P := P) hT hR.heap (hR.ev x) (hR.ev v) (hR.evgl v) h
      refine ⟨undef, w', .inr ⟨by simp only [execOp, hop]; exact run_u h1, rfl⟩, ?_⟩
      have hj : (hv (.store sz x v) (ev P st) st.hp st.gc d).2.1 = .junk := by
        simp only [hv, aStore]
        split
        · split <;> rfl
        · rfl
      rw [hj]
      exact h2
    · subst hs; simp [hv] at h
  | makeFunc fn first caps =>
    cases fn with
    | func f => exfalso; revert h; subst hs; simp only [slimOp, hop]; (repeat' split) <;> simp [hv]
    | _ => simp only [slimOp, hop] at hs; subst hs; simp [hv] at h
  | lookup T x k ok =>
    exfalso; revert h; subst hs; simp only [slimOp, hop]; (repeat' split) <;> simp [hv]
  | makeMap t r =>
    cases r with
    | none =>
      simp only [slimOp, hop] at hs
      subst hs
      obtain ⟨v, w', h1, h2⟩ := mkm_sound (P := P) (T := t) (r := none) (.inl rfl) hR.heap hMx d
      exact ⟨v, w', .inl (by simp only [execOp, hop]; exact run_v h1), h2⟩
    | some r => cases r with
      | const v => cases v with
        | int k n =>
          simp only [slimOp, hop] at hs
          split at hs
          · rename_i kt e hT
            subst hs
            obtain ⟨v, w', h1, h2⟩ := mkm_sound (P := P) (T := t) (r := some (.int k n)) (.inr ⟨k, n, kt, e, rfl, hT⟩) hR.heap hMx d
            exact ⟨v, w', .inl (by simp only [execOp, hop]; exact run_v h1), h2⟩
          · subst hs; simp [hv] at h
        | _ => simp only [slimOp, hop] at hs; subst hs; simp [hv] at h
      | _ => simp only [slimOp, hop] at hs; subst hs; simp [hv] at h
  | mapUpdate T m k v =>
    simp only [slimOp, hop] at hs
    split at hs
    · rename_i kt e hT
      split at hs
      · rename_i z hz
        subst hs
        obtain ⟨w', h1, h2⟩ := aMset_sound (P := P) hT hz hR.heap h (hR.ev m) (hR.ev k) (hR.ev v) (hR.evgl k) (hR.evgl v)
        exact ⟨undef, w', .inr ⟨by simp only [execOp, hop]; exact run_u h1, rfl⟩, h2⟩
      · subst hs; simp [hv] at h
    · subst hs; simp [hv] at h
  | makeSlice t l k =>
    simp only [slimOp, hop] at hs
    split at hs
    · rename_i e hT
      split at hs
      · rename_i es z i hE hz hi
        split at hs
        · rename_i hc
          simp only [Bool.and_eq_true, decide_eq_true_eq] at hc
          obtain ⟨⟨c1, c2⟩, c3⟩ := hc
          subst hs
          obtain ⟨i', zv, hi', hzz, rfl, h1⟩ := zeroT_spec hz
          rw [hi] at hi'; cases hi'
          obtain ⟨v, w', k1, k2⟩ := aMks_sound (P := P) hT hE hi hzz (by rw [← Array.length_toList]; exact c1) c2 h1 hR.heap hMx d (hR.ev l) (hR.ev k) h
          exact ⟨v, w', .inl (by simp only [execOp, hop]; exact run_v k1), k2⟩
        · subst hs; simp [hv] at h
      · subst hs; simp [hv] at h
    · subst hs; simp [hv] at h
  | call cl =>
    simp only [slimOp, hop] at hs
    split at hs
    · split at hs
      · split at hs <;> (subst hs; simp [hv] at h)
      · subst hs; simp [hv] at h
    · rename_i hc
      split at hs
      · rename_i x k t ts hargs htys
        have hargs' : cl.args = #[x, k] := by rw [← Array.toList_inj]; simpa using hargs
        have htys' : cl.argTypes[0]? = some t := by rw [← Array.getElem?_toList, htys]; rfl
        split at hs
        · rename_i kt e hT
          split at hs
          · rename_i z hz
            subst hs
            obtain ⟨v, w', k1, k2⟩ := aMdel_sound (P := P) (ty := o.type) hT htys' hz hR.heap h (hR.ev x) (hR.ev k)
            refine ⟨v, w', .inl ?_, k2⟩
            have hex : execOp a.eval o = (do pure (.value (← Builtin.delete_ cl.argTypes o.type #[a.eval x, a.eval k]))) := by
              simp [execOp, hop, resolve, hc, invoke, builtin, hargs']
            rw [hex]
            exact run_v k1
          · subst hs; simp [hv] at h
        · subst hs; simp [hv] at h
      · subst hs; simp [hv] at h
    · split at hs <;> (subst hs; simp [hv] at h)
    · split at hs <;> (subst hs; simp [hv] at h)
    · rename_i hc
      split at hs
      · rename_i x y t u hargs htys
        have hargs' : cl.args = #[x, y] := by rw [← Array.toList_inj]; simpa using hargs
        have htys' : cl.argTypes = #[t, u] := by rw [← Array.toList_inj]; simpa using htys
        split at hs
        · rename_i e e' hT hU
          split at hs
          · rename_i htu
            subst htu
            split at hs
            · rename_i es i hE hi
              split at hs
              · rename_i hcond
                simp only [Bool.and_eq_true, decide_eq_true_eq] at hcond
                obtain ⟨⟨⟨c1, c2⟩, c3⟩, c4⟩ := hcond
                subst hs
                obtain ⟨z, hz⟩ := Option.isSome_iff_exists.1 c1
                obtain ⟨i', zv, hi', hzz, rfl, _⟩ := zeroT_spec hz
                rw [hi] at hi'; cases hi'
                obtain ⟨v, w', k1, k2⟩ := aApp_sound (P := P) (ty := o.type) hT hi hzz (by simpa [hz] using c4) c2 c3 hR.heap hMx d (hR.ev x) (hR.evgl x) (hR.ev y) (hR.evgl y) h
                refine ⟨v, w', .inl ?_, k2⟩
                have hex : execOp a.eval o = (do pure (.value (← Builtin.append_ #[t, t] o.type #[a.eval x, a.eval y]))) := by
                  simp [execOp, hop, resolve, hc, invoke, builtin, hargs', htys']
                rw [hex]
                exact run_v k1
              · subst hs; simp [hv] at h
            · subst hs; simp [hv] at h
          · subst hs; simp [hv] at h
        · rename_i e ku hT hU
          split at hs
          · rename_i es i z hE hi hz
            split at hs
            · rename_i hcond
              simp only [Bool.and_eq_true, decide_eq_true_eq] at hcond
              obtain ⟨⟨c2, c3⟩, c4⟩ := hcond
              subst hs
              obtain ⟨i', zv, hi', hzz, rfl, hone⟩ := zeroT_spec hz
              rw [hi] at hi'; cases hi'
              obtain ⟨v, w', k1, k2⟩ := aAppz_sound (P := P) (ty := o.type) hT hU hi hzz (by simpa using c4) c2 c3 hone hR.heap hMx d (hR.ev x) (hR.evgl x) (hR.ev y) h
              refine ⟨v, w', .inl ?_, k2⟩
              have hex : execOp a.eval o = (do pure (.value (← Builtin.append_ #[t, u] o.type #[a.eval x, a.eval y]))) := by
                simp [execOp, hop, resolve, hc, invoke, builtin, hargs', htys']
              rw [hex]
              exact run_v k1
            · subst hs; simp [hv] at h
          · subst hs; simp [hv] at h
        · rename_i e hT hU
          split at hs
          · rename_i i z hE hi hz
            split at hs
            · rename_i hcond
              simp only [Bool.and_eq_true, decide_eq_true_eq] at hcond
              obtain ⟨c2, c4⟩ := hcond
              subst hs
              obtain ⟨i', zv, hi', hzz, rfl, -⟩ := zeroT_spec hz
              rw [hi] at hi'; cases hi'
              obtain ⟨v, w', k1, k2⟩ := aApps_sound (P := P) (ty := o.type) hT hU hi hzz (by simpa using c4) c2 hR.heap hMx d (hR.ev x) (hR.evgl x) (hR.ev y) h
              refine ⟨v, w', .inl ?_, k2⟩
              have hex : execOp a.eval o = (do pure (.value (← Builtin.append_ #[t, u] o.type #[a.eval x, a.eval y]))) := by
                simp [execOp, hop, resolve, hc, invoke, builtin, hargs', htys']
              rw [hex]
              exact run_v k1
            · subst hs; simp [hv] at h
          · subst hs; simp [hv] at h
        · subst hs; simp [hv] at h
      · subst hs; simp [hv] at h
    · rename_i hc
      split at hs
      · rename_i x y t u hargs htys
        have hargs' : cl.args = #[x, y] := by rw [← Array.toList_inj]; simpa using hargs
        have htys' : cl.argTypes = #[t, u] := by rw [← Array.toList_inj]; simpa using htys
        split at hs
        · rename_i e e' hT hU
          split at hs
          · rename_i hE
            subst hs
            obtain ⟨i, dd, hi, hsz, _⟩ := szT_info hE
            obtain ⟨v, w', k1, k2⟩ := aCopy_sound (P := P) (T' := u) (ty := o.type) hT hi hsz hR.heap (hR.ev x) (hR.ev y) (hR.evgl y) h
            refine ⟨v, w', .inl ?_, k2⟩
            have hex : execOp a.eval o = (do pure (.value (← Builtin.copy_ #[t, u] o.type #[a.eval x, a.eval y]))) := by
              simp [execOp, hop, resolve, hc, invoke, builtin, hargs', htys']
            rw [hex]
            exact run_v k1
          · subst hs; simp [hv] at h
        · subst hs; simp [hv] at h
      · subst hs; simp [hv] at h
    · split at hs
      · split at hs <;> (subst hs; simp [hv] at h)
      · subst hs; simp [hv] at h
    · split at hs
      · split at hs <;> (subst hs; simp [hv] at h)
      · subst hs; simp [hv] at h
    · subst hs; simp [hv] at h
    · subst hs; simp [hv] at h
  | convert S D x =>
    simp only [slimOp, hop] at hs
    split at hs
    · subst hs; simp [hv] at h
    · subst hs; simp [hv] at h
    · split at hs <;> (subst hs; simp [hv] at h)
    · split at hs <;> (subst hs; simp [hv] at h)
    · rename_i e0 e hS hD
      split at hs
      · rename_i hSD
        split at hs
        · rename_i he
          subst hs
          subst hSD
          obtain ⟨v, w', h1, h2⟩ := aStrz_sound (P := P) hD he hR.heap (hR.ev x) h
          exact ⟨v, w', .inl (by simp only [execOp, hop]; exact run_v h1), h2⟩
        · subst hs; simp [hv] at h
      · subst hs; simp [hv] at h
    · subst hs; simp [hv] at h
  | slice T x lo hi mx =>
    exfalso
    revert h
    subst hs
    cases mx <;> cases hi <;> simp only [slimOp, hop] <;> (repeat' split) <;> simp [hv]
  | _ =>
    exfalso
    revert h
    subst hs
    simp only [slimOp, hop]
    (repeat' split) <;> simp [hv]
theorem call_sound {f : Nat} {ins : List AV} {vs : List Value} {out : AV} (hR : R P w0 M Z G st a w) (hgl : AV.gl.glL st.gc ins) (hvs : RdL G w ins vs) (h : CallOk P f ins st.hp out) :
    Calls P f vs.toArray w fun e w' => ∃ v, e = .returned v ∧ Res st.gc (fun b => w0.heap.size ≤ b ∨ M b) G w out st.hp st.gc v w' := by
  rcases h with ⟨hfree, hc⟩ | ⟨hflat, hfree, hc⟩
  · have hrd : RdL ⟨G.S, fun _ _ => none⟩ w ins vs :=
      RdL.of_free (G := G) (G' := ⟨G.S, fun _ _ => none⟩) (fun _ h => h) (fun _ _ => rfl) _ _ hfree hvs
    refine (hc w G.S _ hR.tabs hR.heap.lt hrd).mono ?_
    rintro e w' ⟨v, S', rfl, hk, hS, hS', hlt, hof, hr⟩
    refine ⟨v, rfl, ?_⟩
    obtain ⟨hE, hH⟩ := heap_grow hR.heap hk (fun b => S' b ∧ w.heap.size ≤ b) (fun b hb => ⟨hb.2, hlt b hb.1⟩)
    refine ⟨_, hE, hH, ?_, gl_of_free _ _ hof, Nat.le_refl _, hk.mono (Nat.le_refl _) (fun _ _ h => h.elim), fun b hb => hb.elim (fun h => .inl h) (fun h => .inr (.inl h.2))⟩
    exact Rd.of_free (G := ⟨S', fun _ _ => none⟩) (fun b hb => (hS' b hb).elim (fun h => Or.inl h) (fun h => Or.inr ⟨hb, h⟩)) (fun _ _ => rfl) _ _ hof hr
  · have hrd0 : RdL (GF G) w (frz.frzL st.hp ins) vs := frzL_sound hR.heap _ _ hgl hvs
    have hrd : RdL ⟨(GF G).S, fun _ _ => none⟩ w (frz.frzL st.hp ins) vs := RdL.of_free (G := GF G) (G' := ⟨(GF G).S, fun _ _ => none⟩) (fun _ h => h) (fun _ _ => rfl) _ _ hfree hrd0
    refine (hc w (GF G).S _ (hR.tabs.mono (fun _ h => .inl h) fun _ _ => rfl) ?_ hrd).mono ?_
    · rintro b (hb | ⟨id, g, hb⟩)
      · exact hR.heap.lt b hb
      · obtain ⟨⟨nl, cells⟩, ho⟩ := hR.heap.live _ _ _ hb
        obtain ⟨ob, k1, _, _, k4⟩ := hR.heap.row _ _ _ _ ho
        rw [hb] at k1; cases k1
        obtain ⟨_, _, _, _, k3⟩ := k4 b rfl
        exact k3.lt
    · rintro e w' ⟨v, S', rfl, hk, hS, hS', hlt, hof, hr⟩
      refine ⟨v, rfl, ?_⟩
      obtain ⟨hE, hH⟩ := heap_grow hR.heap hk (fun _ => False) (fun b hb => hb.elim)
      refine ⟨_, hE, hH, ?_, gl_of_free _ _ hof, Nat.le_refl _, hk.mono (Nat.le_refl _) (fun _ _ h => h.elim), fun b hb => hb.elim (fun h => .inl h) (fun h => h.elim)⟩
      exact Rd.of_flat out v hflat hr
theorem call_exec {P : Program} {o : Oper} {h : Bool} {f : Nat} {args : List Operand} (hs : slimOp P o = .call h f args) (a : Act) (w : World) : (execOp a.eval o).run P w = .ok (.enter f (args.map a.eval).toArray) w := by
  cases hop : o.op with
  | call cl =>
    simp only [slimOp, hop] at hs
    split at hs
    · exfalso; revert hs; (repeat' split) <;> simp
    · exfalso; revert hs; (repeat' split) <;> simp
    · exfalso; revert hs; (repeat' split) <;> simp
    · exfalso; revert hs; (repeat' split) <;> simp
    · exfalso; revert hs; (repeat' split) <;> simp
    · exfalso; revert hs; (repeat' split) <;> simp
    · exfalso; revert hs; (repeat' split) <;> simp
    · rename_i f' hc
      split at hs
      · rename_i fn hfn
        split at hs
        · rename_i hcond
          simp only [Bool.and_eq_true, bne_iff_ne] at hcond
          simp only [SOp.call.injEq] at hs
          obtain ⟨_, rfl, rfl⟩ := hs
          have hb : ¬ fn.body = none := by cases h : fn.body <;> simp [h] at hcond ⊢
          simp [execOp, hop, resolve, hc, Act.eval, Deferred.ofValue, invoke, callFunc, hfn, hb, hcond.2]
          rw [← Array.toList_inj]; simp
        · simp at hs
      · simp at hs
    · simp at hs
    · simp at hs
  | makeFunc fn first caps => exfalso; revert hs; cases fn <;> simp only [slimOp, hop] <;> (repeat' split) <;> simp
  | makeMap t r =>
    exfalso
    revert hs
    cases r with
    | none => simp [slimOp, hop]
    | some r => cases r with
      | const v => cases v <;> simp only [slimOp, hop] <;> (repeat' split) <;> simp
      | _ => simp [slimOp, hop]
  | slice T x lo hi mx =>
    exfalso
    revert hs
    cases mx <;> cases hi <;> simp only [slimOp, hop] <;> (repeat' split) <;> simp
  | _ =>
    exfalso
    revert hs
    simp only [slimOp, hop]
    (repeat' split) <;> simp
theorem slim_ne_bsl {P : Program} {o : Oper} {es : Option Nat} {ps : List Operand} : slimOp P o ≠ .bsl es ps := by
  cases hop : o.op with
  | makeFunc fn first caps => cases fn <;> simp only [slimOp, hop] <;> (repeat' split) <;> simp
  | makeMap t r =>
    cases r with
    | none => simp [slimOp, hop]
    | some r => cases r with
      | const v => cases v <;> simp only [slimOp, hop] <;> (repeat' split) <;> simp
      | _ => simp [slimOp, hop]
  | slice T x lo hi mx => cases mx <;> cases hi <;> simp only [slimOp, hop] <;> (repeat' split) <;> simp
  | _ => simp only [slimOp, hop]; (repeat' split) <;> simp
theorem bsl_sound {o : Oper} {es : Option Nat} {ps : List Operand} (hs : slimOp P o = .bslice es ps) (hR : R P w0 M Z G st a w) (d : Nat) (h : (aBsl es (ps.map (ev P st)) st.hp st.gc d).1) :
    Goes P w0 M st a w o G (aBsl es (ps.map (ev P st)) st.hp st.gc d).2.1 (aBsl es (ps.map (ev P st)) st.hp st.gc d).2.2.1 (aBsl es (ps.map (ev P st)) st.hp st.gc d).2.2.2 := by
  have hMx := hMx hR
  cases hop : o.op with
  | buildSlice T len parts =>
    simp only [slimOp, hop] at hs
    split at hs
    · rename_i e hT
      split at hs
      · rename_i es' z hE hz
        split at hs
        · rename_i hcond
          simp only [Bool.and_eq_true, decide_eq_true_eq] at hcond
          obtain ⟨⟨⟨⟨c1, c2⟩, c3⟩, c4⟩, c5⟩ := hcond
          simp only [SOp.bslice.injEq] at hs
          obtain ⟨rfl, rfl⟩ := hs
          obtain ⟨i, zv, hi, hzz, rfl, h1⟩ := zeroT_spec hz
          obtain ⟨hl, hp⟩ := partsIn_spec c2
          have hes : 0 < zv.cells.size := by rw [Array.length_toList] at c1; omega
          obtain ⟨v, w', k1, k2⟩ := aBsl_sound (P := P) hT hE hi hzz hR.heap hMx d (e := ev P st) (ρ := a.eval) hR.ev hR.evgl (parts.toList.map fun p : Nat × Operand => p.2) (by omega) c4 (by rw [hl]; exact c5) (by
            intro u hu
            simp only [Array.toList_map, List.mem_map, Array.toList_range, List.mem_range] at hu
            obtain ⟨k, _, rfl⟩ := hu
            have hlt : k % zv.cells.size < zv.cells.size := Nat.mod_lt _ hes
            have e1 : zv.cells[k % zv.cells.size]! = zv.cells[k % zv.cells.size]'hlt := getElem!_pos zv.cells _ hlt
            rw [e1]
            exact h1 _ (by simp)) h
          refine ⟨v, w', .inl ?_, k2⟩
          simp only [execOp, hop]
          refine run_v ?_
          rw [hl] at k1
          rw [← hp] at k1
          exact k1
        · split at hs <;> simp at hs
      · simp at hs
    · simp at hs
  | makeFunc fn first caps => exfalso; revert hs; cases fn <;> simp only [slimOp, hop] <;> (repeat' split) <;> simp
  | makeMap t r =>
    exfalso
    revert hs
    cases r with
    | none => simp [slimOp, hop]
    | some r => cases r with
      | const v => cases v <;> simp only [slimOp, hop] <;> (repeat' split) <;> simp
      | _ => simp [slimOp, hop]
  | slice T x lo hi mx =>
    exfalso
    revert hs
    cases mx <;> cases hi <;> simp only [slimOp, hop] <;> (repeat' split) <;> simp
  | _ =>
    exfalso
    revert hs
    simp only [slimOp, hop]
    (repeat' split) <;> simp
theorem callv_exec {P : Program} {o : Oper} {h : Bool} {x : Operand} {f : Nat} {args : List Operand} (hs : slimOp P o = .callv h x args) (a : Act) {caps : List Value} (hx : a.eval x = .func (.func f) #[] caps.toArray) (hc : callable P f = true) (w : World) : (execOp a.eval o).run P w = .ok (.enter f (args.map a.eval ++ caps).toArray) w := by
  cases hop : o.op with
  | call cl =>
    simp only [slimOp, hop] at hs
    split at hs
    · exfalso; revert hs; (repeat' split) <;> simp
    · exfalso; revert hs; (repeat' split) <;> simp
    · exfalso; revert hs; (repeat' split) <;> simp
    · exfalso; revert hs; (repeat' split) <;> simp
    · exfalso; revert hs; (repeat' split) <;> simp
    · exfalso; revert hs; (repeat' split) <;> simp
    · exfalso; revert hs; (repeat' split) <;> simp
    · exfalso; revert hs; (repeat' split) <;> simp
    · rename_i t hcl
      simp only [SOp.callv.injEq] at hs
      obtain ⟨_, rfl, rfl⟩ := hs
      unfold callable at hc
      split at hc
      · rename_i fn hfn
        simp only [Bool.and_eq_true, bne_iff_ne] at hc
        have hb : ¬ fn.body = none := by cases h : fn.body <;> simp [h] at hc ⊢
        simp [execOp, hop, resolve, hcl, hx, Deferred.ofValue, invoke, callFunc, hfn, hb, hc.2]
        try (rw [← Array.toList_inj]; simp)
      · simp at hc
    · simp at hs
  | makeFunc fn first caps => exfalso; revert hs; cases fn <;> simp only [slimOp, hop] <;> (repeat' split) <;> simp
  | makeMap t r =>
    exfalso
    revert hs
    cases r with
    | none => simp [slimOp, hop]
    | some r => cases r with
      | const v => cases v <;> simp only [slimOp, hop] <;> (repeat' split) <;> simp
      | _ => simp [slimOp, hop]
  | slice T x lo hi mx => exfalso; revert hs; cases mx <;> cases hi <;> simp only [slimOp, hop] <;> (repeat' split) <;> simp
  | _ =>
    exfalso
    revert hs
    simp only [slimOp, hop]
    (repeat' split) <;> simp
theorem step_sound {o : Oper} {s : SOp} {K : ASt → Prop} {Q : Exit → Act → World → Prop} (hs : (slimOp P o).weak = s.weak) (hR : R P w0 M Z G st a w) (hd : ∀ t, o.dst = some t → t < st.N) (h : AStep P s o.dst st K) :
    o.wp P a w (fun a' w' => ∃ st' G', K st' ∧ R P w0 M Z G' st' a' w') Q := by
  have hother : (∀ h f args, s ≠ .call h f args) → (∀ es ps, s ≠ .bsl es ps) → (∀ h x args, s ≠ .callv h x args) → o.wp P a w (fun a' w' => ∃ st' G', K st' ∧ R P w0 M Z G' st' a' w') Q := by
    intro hne hne2 hne3
    have hs : slimOp P o = s := by
      have hw : s.weak = s := by cases s <;> first | rfl | exact absurd rfl (hne _ _ _) | exact absurd rfl (hne2 _ _) | exact absurd rfl (hne3 _ _ _)
      rw [hw] at hs
      cases hx : slimOp P o <;> rw [hx] at hs <;> simp only [SOp.weak] at hs <;> first | exact absurd hx slim_ne_bsl | exact hs | exact absurd hs.symm (hne _ _ _) | exact absurd hs.symm (hne3 _ _ _)
    have h' : (if s.isHv then
      (hv s (ev P st) st.hp st.gc (o.dst.getD 0)).1 ∧ K (ASt.put ⟨st.tm, (hv s (ev P st) st.hp st.gc (o.dst.getD 0)).2.2.1, (hv s (ev P st) st.hp st.gc (o.dst.getD 0)).2.2.2, st.N⟩ o.dst (hv s (ev P st) st.hp st.gc (o.dst.getD 0)).2.1)
    else (pv s (ev P st) st.hp).1 ∧ K (st.put o.dst (pv s (ev P st) st.hp).2)) := by
      cases s <;> first | exact h | exact absurd rfl (hne _ _ _) | exact absurd rfl (hne2 _ _) | exact absurd rfl (hne3 _ _ _)
    split at h'
    · exact (hv_sound hs hR _ h'.1).wp hR hd h'.2
    · exact (pv_sound hs hR h'.1).wp hR hd h'.2
  have hgl : ∀ l : List Operand, AV.gl.glL st.gc (l.map (ev P st)) := by
    intro l
    induction l with
    | nil => simp [AV.gl.glL]
    | cons x l ih => simp only [List.map_cons, AV.gl.glL]; exact ⟨hR.evgl x, ih⟩
  cases s with
  | call t f args =>
    obtain ⟨t', hs⟩ : ∃ t', slimOp P o = .call t' f args := by
      cases hx : slimOp P o <;> rw [hx] at hs <;> simp [SOp.weak] at hs
      exact ⟨_, by rw [hs.1, hs.2]⟩
    unfold Oper.wp
    rw [call_exec hs a w]
    rw [Oper.upon_enter]
    rcases h with ⟨out, hc, hK⟩ | ⟨_, r, hp', c', hc, hK⟩
    · refine (call_sound hR (hgl args) (rdL_map hR.ev args) hc).mono ?_
      rintro e w' ⟨v, rfl, hres⟩
      obtain ⟨G', hR'⟩ := hR.res hd hres
      exact ⟨_, G', hK, hR'⟩
    · refine (hcall_sound hR.tabs hR.heap (fun b hb => .inl (Nat.le_trans hR.keep.size hb)) (hgl args) (rdL_map hR.ev args) hc).mono ?_
      rintro e w' ⟨v, rfl, hres⟩
      obtain ⟨G', hR'⟩ := hR.res hd hres
      exact ⟨_, G', hK, hR'⟩
  | bsl es ps =>
    have hs : slimOp P o = .bslice es ps := by
      cases hx : slimOp P o <;> rw [hx] at hs <;> simp only [SOp.weak] at hs <;> first | exact absurd hx slim_ne_bsl | exact hs | simp at hs
    have h : (aBsl es (ps.map (ev P st)) st.hp st.gc (o.dst.getD 0)).1 ∧ _ := h
    exact (bsl_sound hs hR _ h.1).wp hR hd h.2
  | callv t x args =>
    obtain ⟨t', hs⟩ : ∃ t', slimOp P o = .callv t' x args := by
      cases hx : slimOp P o <;> rw [hx] at hs <;> simp [SOp.weak] at hs
      exact ⟨_, by rw [hs.1, hs.2]⟩
    obtain ⟨f, caps, e1, e2, h⟩ := h
    have hxv : ∃ cv : List Value, a.eval x = .func (.func f) #[] cv.toArray ∧ RdL G w caps cv ∧ AV.gl.glL st.gc caps := by
      have h1 := hR.ev x
      have h2 := hR.evgl x
      unfold funA at e1
      split at e1
      · rename_i e
        split at e1
        · rename_i hz
          simp only [Option.some.injEq, Prod.mk.injEq] at e1
          obtain ⟨rfl, rfl⟩ := e1
          rw [e] at h1
          refine ⟨[], ?_, by simp [RdL], by simp [AV.gl.glL]⟩
          rw [h1.sc_inv, Array.eq_empty_of_size_eq_zero hz.1, Array.eq_empty_of_size_eq_zero hz.2]
        · simp at e1
      · rename_i e
        simp only [Option.some.injEq, Prod.mk.injEq] at e1
        obtain ⟨rfl, rfl⟩ := e1
        rw [e] at h1 h2
        simp only [Rd] at h1
        simp only [AV.gl] at h2
        obtain ⟨cv, k1, k2⟩ := h1
        exact ⟨cv, k1, k2, h2⟩
      · simp at e1
    obtain ⟨cv, hxv, hcv, hcg⟩ := hxv
    have hall : RdL G w (args.map (ev P st) ++ caps) (args.map a.eval ++ cv) := (rdL_map hR.ev args).append hcv
    have hag : AV.gl.glL st.gc (args.map (ev P st) ++ caps) := glL_append (hgl args) hcg
    unfold Oper.wp
    rw [callv_exec hs a hxv e2 w]
    rw [Oper.upon_enter]
    rcases h with ⟨out, hc, hK⟩ | ⟨_, r, hp', c', hc, hK⟩
    · refine (call_sound hR hag hall hc).mono ?_
      rintro e w' ⟨v, rfl, hres⟩
      obtain ⟨G', hR'⟩ := hR.res hd hres
      exact ⟨_, G', hK, hR'⟩
    · refine (hcall_sound hR.tabs hR.heap (fun b hb => .inl (Nat.le_trans hR.keep.size hb)) hag hall hc).mono ?_
      rintro e w' ⟨v, rfl, hres⟩
      obtain ⟨G', hR'⟩ := hR.res hd hres
      exact ⟨_, G', hK, hR'⟩
  | _ => exact hother (by simp) (by simp) (by simp)
end
end Go.Proofs.YtbmmdkbinlnogaaDoor.Aw
