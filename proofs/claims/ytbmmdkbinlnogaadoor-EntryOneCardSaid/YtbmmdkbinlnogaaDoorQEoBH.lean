/- Parts of the proofs of Eo. -/
import Derived.Test.YtbmmdkbinlnogaaDoorQEoBG
namespace Go.Proofs.YtbmmdkbinlnogaaDoor.Aw
open Go
set_option linter.unusedSimpArgs false
set_option linter.unusedVariables false
theorem yield_exec {P : Program} {o : Oper} {h : Bool} {x : Operand} {args : List Operand} (hs : slimOp P o = .callv h x args) (a : Act) {l : Nat} (hx : a.eval x = .func (.yield l) #[] #[]) (w : World) : (execOp a.eval o).run P w = (Instr.yield l (args.map a.eval).toArray).run P w := by
  cases hop : o.op with
  | call cl =>
    simp only [slimOp, hop] at hs
    split at hs
    · exfalso; revert hs; (repeat' split) <;> simp
    · exfalso; revert hs; (repeat' split) <;> simp
    · exfalso; revert hs; (repeat' split) <;> simp
    · exfalso; revert hs; (repeat' split) <;> simp
    · exfalso; revert hs; (repeat' split) <;> simp
    · exfalso; revert hs; (repeat' split) <;> simp
    · exfalso; revert hs; (repeat' split) <;> simp
    · exfalso; revert hs; (repeat' split) <;> simp
    · rename_i t hcl
      simp only [SOp.callv.injEq] at hs
      obtain ⟨_, rfl, rfl⟩ := hs
      simp [execOp, hop, resolve, hcl, hx, Deferred.ofValue, invoke]
      have e : (List.map a.eval cl.args.toList).toArray = Array.map a.eval cl.args := by rw [← Array.toList_inj]; simp
      rw [e]
    · simp at hs
  | makeFunc fn first caps => exfalso; revert hs; cases fn <;> simp only [slimOp, hop] <;> (repeat' split) <;> simp
  | makeMap t r =>
    exfalso
    revert hs
    cases r with
    | none => simp [slimOp, hop]
    | some r => cases r with
      | const v => cases v <;> simp only [slimOp, hop] <;> (repeat' split) <;> simp
      | _ => simp [slimOp, hop]
  | slice T x lo hi mx => exfalso; revert hs; cases mx <;> cases hi <;> simp only [slimOp, hop] <;> (repeat' split) <;> simp
  | _ =>
    exfalso
    revert hs
    simp only [slimOp, hop]
    (repeat' split) <;> simp
structure IterD where
  J : Nat → World → Prop
  Jx : World → Prop
  Own : Nat → Prop
  Gi : Gh
  l : Nat
  xs : List Value
def IterD.Jo (X : IterD) : Option Nat → World → Prop
  | some k => X.J k
  | none => X.Jx
structure IterD.Ok (X : IterD) (P : Program) [Tabs P] : Prop where
  stab : ∀ k w w', X.J k w → IStep X.Own w w' → X.J k w'
  stabx : ∀ w w', X.Jx w → IStep X.Own w w' → X.Jx w'
  round : ∀ k x w, X.J k w → X.xs[k]? = some x → YieldAt Fence.wide 0 P X.l #[x] w fun e w' => RStep X.Gi.S X.Own w w' ∧ ((e = .returned (.bool true) ∧ X.J (k + 1) w') ∨ (e = .returned (.bool false) ∧ X.Jx w'))
  own : ∀ b, X.Gi.reg b ↔ X.Own b
def okF (X : IterD) (F : ASt) : Prop :=
  (∀ t, F.tm t = .junk ∨ (∃ v, F.tm t = .sc v) ∨ ∃ id g o, F.tm t = .op id g o ∧ ∃ b, X.Gi.ob id g = some (some b)) ∧
  (∀ id g nl cells, F.hp id = some (g, .row nl cells) → (∃ b, X.Gi.ob id g = some (some b)) ∧ ∀ c ∈ cells, ∃ v, c = .sc v) ∧
  ∀ id g ob, X.Gi.ob id g = some ob → ∃ o, F.hp id = some (g, o)
section
variable {P : Program} [Tabs P] {X : IterD} {F : ASt} {a a' : Act} {w w' : World} {w0 : World} {M : Nat → Prop} {Z : Beg} {G G' : Gh} {st st' : ASt}
def IJ (P : Program) [Tabs P] (X : IterD) (κ : Option Nat) (F : ASt) (a : Act) (w : World) : Prop := R P w X.Gi.reg ⟨X.Gi, F.gc, [], F.gc⟩ X.Gi F a w ∧ X.Jo κ w
theorem rdL_scal {G G' : Gh} {w w' : World} : ∀ {cells : List AV} {vs : List Value}, (∀ c ∈ cells, ∃ v, c = .sc v) → RdL G w cells vs → RdL G' w' cells vs
  | [], _, _, h => h
  | c :: cells, vs, hc, h => by
    simp only [RdL] at h ⊢
    obtain ⟨v, r, e, h1, h2⟩ := h
    obtain ⟨u, rfl⟩ := hc c (by simp)
    exact ⟨v, r, e, by simpa [Rd] using h1, rdL_scal (fun c h => hc c (by simp [h])) h2⟩
theorem IJ.piece (hX : X.Ok P) {κ : Option Nat} {F F' s : ASt} (h : IJ P X κ F a w) (hR : R P w X.Gi.reg ⟨X.Gi, F.gc, [], F.gc⟩ G' s a' w') (hle : Le s F') (hok : okF X F') : IJ P X κ F' a' w' := by
  obtain ⟨hR0, hJ⟩ := h
  obtain ⟨G2, hE, hR2⟩ := hR.leE hle
  have hE2 := hR2.ext
  obtain ⟨ok1, ok2, ok3⟩ := hok
  have hlt : ∀ id g ob, X.Gi.ob id g = some ob → g < F.gc := fun id g ob h => by
    obtain ⟨⟨nl, cells⟩, ho⟩ := hR0.heap.live _ _ _ h
    exact (hR0.heap.gl _ _ _ _ ho).1
  have hname : ∀ id g ob, X.Gi.ob id g = some ob → G2.ob id g = some ob := fun id g ob h => by
    obtain ⟨⟨nl, cells⟩, ho⟩ := ok3 id g ob h
    obtain ⟨ob', h1, _⟩ := hR2.heap.row _ _ _ _ ho
    have := hE2.ob id g ob' (hlt id g ob h) h1
    rw [h] at this
    rw [h1, this]
  refine ⟨⟨Keep.refl _ _ _, ⟨fun b hb => Nat.lt_of_lt_of_le (hR0.heap.lt b hb) hR2.keep.size, fun id g ob h => ok3 id g ob h, fun id g nl cells h => ?_, hR0.heap.inj, fun id g nl cells h => ?_⟩, hR2.size, fun t => ?_, hR2.gl, hR2.defers, fun _ h => .inl h, Ext.refl _ _ _, Nat.le_refl _, Nat.le_refl _, hR0.tabs.mono (fun _ h => h) hE2.cells⟩, ?_⟩
  · exact hR2.heap.gl _ _ _ _ h
  · obtain ⟨⟨b, hb⟩, hc⟩ := ok2 id g nl cells h
    obtain ⟨ob, h1, h2, h3, h4⟩ := hR2.heap.row _ _ _ _ h
    rw [hname id g _ hb] at h1
    cases h1
    refine ⟨some b, hb, h2, h3, fun b' hb' => ?_⟩
    cases hb'
    obtain ⟨k1, k2, vs, k4, k3⟩ := h4 b rfl
    obtain ⟨⟨nl0, cells0⟩, ho⟩ := hR0.heap.live _ _ _ hb
    obtain ⟨ob0, q1, _, _, q4⟩ := hR0.heap.row _ _ _ _ ho
    rw [hb] at q1
    cases q1
    exact ⟨(q4 b rfl).1, .inr ⟨id, g, hb⟩, vs, rdL_scal hc k4, k3⟩
  · have := hR2.tm t
    rcases ok1 t with e | ⟨v, e⟩ | ⟨id, g, o, e, b, hb⟩
    · rw [e]; simp [Rd]
    · rw [e] at this ⊢; simpa [Rd] using this
    · rw [e] at this ⊢
      simp only [Rd] at this ⊢
      refine ⟨this.1, fun ob h => this.2 ob (hname id g ob h)⟩
  · have hs : IStep X.Own w w' := ⟨hR2.keep.os, hR2.keep.tape, hR2.keep.output, hR2.keep.size, fun b h1 h2 => hR2.keep.block b h1 fun h => h2 ((hX.own b).1 h), hE2.shape⟩
    cases κ with
    | some k => exact hX.stab k _ _ hJ hs
    | none => exact hX.stabx _ _ hJ hs
theorem IJ.round (hX : X.Ok P) {κ κ' : Option Nat} (h : IJ P X κ F a w) (hs : RStep X.Gi.S X.Own w w') (hJ : X.Jo κ' w') : IJ P X κ' F a w' := by
  obtain ⟨hR, -⟩ := h
  have hE : Ext F.gc X.Gi w X.Gi w' := ⟨fun _ h => h, fun b hb => hs.block b (hR.heap.lt b hb) (.inl hb), hs.shape, fun _ _ _ _ h => h⟩
  refine ⟨⟨Keep.refl _ _ _, ⟨fun b hb => Nat.lt_of_lt_of_le (hR.heap.lt b hb) hs.size, hR.heap.live, hR.heap.gl, hR.heap.inj, fun id g nl cells hid => ?_⟩, hR.size, fun t => Rd.mono hE _ _ (hR.gl t) (hR.tm t), hR.gl, hR.defers, fun _ h => .inl h, Ext.refl _ _ _, Nat.le_refl _, Nat.le_refl _, hR.tabs.mono (fun _ h => h) hE.cells⟩, hJ⟩
  obtain ⟨ob, h1, h2, h3, h4⟩ := hR.heap.row _ _ _ _ hid
  refine ⟨ob, h1, h2, h3, fun b hb => ?_⟩
  obtain ⟨k1, k2, vs, k4, k3⟩ := h4 b hb
  refine ⟨k1, .inr ⟨id, g, by rw [h1, hb]⟩, vs, RdL.mono hE _ _ (hR.heap.gl _ _ _ _ hid).2 k4, ?_⟩
  rw [hs.block b k3.lt (.inr ((hX.own b).1 ⟨id, g, by rw [h1, hb]⟩))]
  exact k3
theorem ops_pre {n N : Nat} {ops : Array Oper} {sl : List SOper} {Q' : Exit → Act → World → Prop} (hsl : ops.toList.mapM (slimO P N false ops) = some sl) (hQ : ¬ LetsOut Q') : ∀ (A : List SOper) (i : Nat) (rest : List Nat) (K : ASt → Prop) (st : ASt) (G : Gh) (a : Act) (w : World), (∀ j s, A[j]? = some s → sl[i + j]? = some s) → st.N = N → R P w0 M Z G st a w → AOps P A K st →
    (∀ st' G' a' w', K st' → st'.N = N → R P w0 M Z G' st' a' w' → wpOpsIn Fence.wide n P ops Q' rest a' w') → wpOpsIn Fence.wide n P ops Q' (List.range' i A.length ++ rest) a w
  | [], i, rest, K, st, G, a, w, _, hN, hR, h, hk => by
    simpa using hk st G a w h hN hR
  | s :: A, i, rest, K, st, G, a, w, hA, hN, hR, h, hk => by
    obtain ⟨hlen, hget⟩ := mapM_get hsl
    have hs := hA 0 s (by simp)
    rw [Nat.add_zero] at hs
    have hi : i < ops.size := by rw [← hlen]; exact lt_of_get hs
    have ho : ops[i]? = some ops[i] := Array.getElem?_eq_getElem hi
    obtain ⟨s', h1, h2⟩ := hget i _ ho
    rw [hs] at h1
    cases h1
    rw [AOps_cons] at h
    simp only [List.length_cons, List.range'_succ, List.cons_append]
    rw [wpOpsIn_cons]
    have hg := gstep_sound (Q := Q') ho (by rw [hN]; exact h2) hR h.N
    refine wpOpIn_mono ?_ (show wpOpIn Fence.wide n P ops Q' i _ a w from wpOp_fr (rd := none) (.inl rfl) hQ hg)
    rintro a' w' ⟨st', G', ⟨hk', hn'⟩, hR'⟩
    exact ops_pre hsl hQ A (i + 1) rest K st' G' a' w' (fun j s hj => by have := hA (j + 1) s (by simpa using hj); rwa [show i + 1 + j = i + (j + 1) by omega]) (by rw [hn', hN]) hR' hk' hk
def ordC : Code → Bool
  | .seq a b => ordC a && ordC b
  | .cond _ a b => ordC a && ordC b
  | .block _ b => ordC b
  | .loop b => ordC b
  | .region _ _ d => !d
  | _ => true
abbrev PostJ (P : Program) [Tabs P] (X : IterD) (N : Nat) (Q : Ex → Option Nat → ASt → Prop) : Exit → Act → World → Prop :=
  fun e a' w' => ∃ ex κ' s, e = Ex.out ex ∧ Q ex κ' s ∧ s.N = N ∧ IJ P X κ' s a' w'
theorem noOutJ {N : Nat} {Q : Ex → Option Nat → ASt → Prop} : ¬ LetsOut (PostJ P X N Q) := by
  rintro ⟨a, w, ex, _, _, h, _⟩
  cases ex <;> cases h
def SJ (P : Program) [Tabs P] (X : IterD) (c : SCode) (κ : Option Nat) (Q : Ex → Option Nat → ASt → Prop) (st : ASt) : Prop :=
  ∀ code, slimC P st.N code = c → plainC code = true → ordC code = true → ∀ a w, IJ P X κ st a w → code.wpIn Fence.wide 0 P (PostJ P X st.N Q) a w
theorem SJ.of (hX : X.Ok P) (hm : P.follows .mixedOrders = true) {c : SCode} {κ : Option Nat} {Q : Ex → Option Nat → ASt → Prop} (h : ∀ L : Lim, @SWp P _ L c (fun ex s => ∃ F, Le s F ∧ okF X F ∧ Q ex κ F) st) : SJ P X c κ Q st := by
  intro code hc hp _ a w hI
  have A := h ⟨st.gc⟩ hm code hc w X.Gi.reg ⟨X.Gi, st.gc, [], st.gc⟩ X.Gi a w rfl hI.1 none 0 (.inl rfl)
  refine wpIn_mono (show code.wpIn Fence.wide 0 P _ a w from A) ?_
  rintro e a' w' ⟨ex, s, G', rfl, ⟨F, hle, hok, hq⟩, hN, ds, hds, -, hR⟩
  obtain rfl := hds hp
  exact ⟨ex, κ, F, rfl, hq, by rw [hle.N, hN], hI.piece hX hR hle hok⟩
def thnJ (P : Program) [Tabs P] (X : IterD) (y : SCode) (Q : Ex → Option Nat → ASt → Prop) : Ex → Option Nat → ASt → Prop
  | .normal, κ, s => SJ P X y κ Q s
  | e, κ, s => Q e κ s
theorem SJ.seq {x y : SCode} {κ : Option Nat} {Q : Ex → Option Nat → ASt → Prop} (h : SJ P X x κ (thnJ P X y Q) st) : SJ P X (.seq x y) κ Q st := by
  intro code hc hp ho a w hI
  cases code with
  | seq cx cy =>
    simp only [slimC, SCode.seq.injEq] at hc
    simp only [plainC, ordC, Bool.and_eq_true] at hp ho
    refine wpIn_seq (wpIn_mono (h cx hc.1 hp.1 ho.1 a w hI) ?_)
    rintro e a' w' ⟨ex, κ', s, rfl, h1, h2, h3⟩
    cases ex with
    | normal =>
      have h1 : SJ P X y κ' Q s := h1
      refine wpIn_mono (h1 cy (by rw [h2]; exact hc.2) hp.2 ho.2 a' w' h3) ?_
      rintro e a2 w2 ⟨ex, κ2, s2, h0, k1, k2, k3⟩
      exact ⟨ex, κ2, s2, h0, k1, k2.trans h2, k3⟩
    | exit i => exact ⟨.exit i, κ', s, rfl, h1, h2, h3⟩
    | ret => exact ⟨.ret, κ', s, rfl, h1, h2, h3⟩
  | region id ops draw => simp only [slimC] at hc; (repeat' split at hc) <;> simp at hc
  | _ => simp [slimC] at hc
theorem SJ.skip {κ : Option Nat} {Q : Ex → Option Nat → ASt → Prop} (h : Q .normal κ st) : SJ P X .skip κ Q st := by
  intro code hc _ _ a w hI
  cases code with
  | skip => exact wpIn_skip ⟨.normal, κ, st, rfl, h, rfl, hI⟩
  | region id ops draw => simp only [slimC] at hc; (repeat' split at hc) <;> simp at hc
  | _ => simp [slimC] at hc
theorem SJ.ret {κ : Option Nat} {Q : Ex → Option Nat → ASt → Prop} (h : Q .ret κ st) : SJ P X .ret κ Q st := by
  intro code hc _ _ a w hI
  cases code with
  | ret => exact wpIn_ret ⟨.ret, κ, st, rfl, h, rfl, hI⟩
  | region id ops draw => simp only [slimC] at hc; (repeat' split at hc) <;> simp at hc
  | _ => simp [slimC] at hc
theorem SJ.exit {i : Nat} {κ : Option Nat} {Q : Ex → Option Nat → ASt → Prop} (h : Q (.exit i) κ st) : SJ P X (.exit i) κ Q st := by
  intro code hc _ _ a w hI
  cases code with
  | exit i' =>
    simp only [slimC, SCode.exit.injEq] at hc
    subst hc
    exact wpIn_exit ⟨.exit i', κ, st, rfl, h, rfl, hI⟩
  | region id ops draw => simp only [slimC] at hc; (repeat' split at hc) <;> simp at hc
  | _ => simp [slimC] at hc
theorem SJ.cond {c : Operand} {x y : SCode} {t : Bool} {κ : Option Nat} {Q : Ex → Option Nat → ASt → Prop} (hc0 : ev P st c = .sc (.bool t)) (ht : t = true → SJ P X x κ Q st) (hf : t = false → SJ P X y κ Q st) : SJ P X (.cond c x y) κ Q st := by
  intro code hc hp ho a w hI
  cases code with
  | cond c' cx cy =>
    simp only [slimC, SCode.cond.injEq] at hc
    simp only [plainC, ordC, Bool.and_eq_true] at hp ho
    obtain ⟨rfl, hx, hy⟩ := hc
    have hv : a.eval c' = .bool t := by
      have := hI.1.ev c'
      rw [hc0] at this
      exact this.sc_inv
    exact wpIn_cond_split hv (fun e => ht e cx hx hp.1 ho.1 a w hI) (fun e => hf e cy hy hp.2 ho.2 a w hI)
  | region id ops draw => simp only [slimC] at hc; (repeat' split at hc) <;> simp at hc
  | _ => simp [slimC] at hc
def inbJ (id : Nat) (Q : Ex → Option Nat → ASt → Prop) : Ex → Option Nat → ASt → Prop
  | .exit id', κ, s => if id' = id then Q .normal κ s else Q (.exit id') κ s
  | e, κ, s => Q e κ s
theorem SJ.block {id : Nat} {x : SCode} {κ : Option Nat} {Q : Ex → Option Nat → ASt → Prop} (h : SJ P X x κ (inbJ id Q) st) : SJ P X (.block id x) κ Q st := by
  intro code hc hp ho a w hI
  cases code with
  | block id' cx =>
    simp only [slimC, SCode.block.injEq] at hc
    obtain ⟨rfl, hx⟩ := hc
    refine wpIn_block (wpIn_mono (h cx hx (by simpa only [plainC] using hp) (by simpa only [ordC] using ho) a w hI) ?_)
    rintro e a' w' ⟨ex, κ', s, rfl, h1, h2, h3⟩
    cases ex with
    | normal => exact ⟨.normal, κ', s, rfl, h1, h2, h3⟩
    | ret => exact ⟨.ret, κ', s, rfl, h1, h2, h3⟩
    | exit i =>
      simp only [Ex.out, Exit.inBlock]
      simp only [inbJ] at h1
      split
      · rename_i e; rw [if_pos e] at h1; exact ⟨.normal, κ', s, rfl, h1, h2, h3⟩
      · rename_i e; rw [if_neg e] at h1; exact ⟨.exit i, κ', s, rfl, h1, h2, h3⟩
  | region id ops draw => simp only [slimC] at hc; (repeat' split at hc) <;> simp at hc
  | _ => simp [slimC] at hc
def lpJ {α : Type} (F : α → ASt) (K : α → Option Nat) (I : α → Prop) (μ : α → Nat) (n : Nat) (Q : Ex → Option Nat → ASt → Prop) : Ex → Option Nat → ASt → Prop
  | .normal, κ, s => ∃ k, I k ∧ μ k < n ∧ s = F k ∧ κ = K k
  | e, κ, s => Q e κ s
theorem SJ.loop {x : SCode} {Q : Ex → Option Nat → ASt → Prop} {α : Type} (F : α → ASt) (K : α → Option Nat) (I : α → Prop) (μ : α → Nat) (a0 : α) (h0 : I a0)
    (h : ∀ k, I k → SJ P X x (K k) (lpJ F K I μ (μ k) Q) (F k)) : SJ P X (.loop x) (K a0) Q (F a0) := by
  intro code hc hp ho a w hI
  cases code with
  | loop cx =>
    simp only [slimC, SCode.loop.injEq] at hc
    simp only [plainC, ordC] at hp ho
    have key : ∀ n k a w, I k → μ k = n → (F k).N = (F a0).N → IJ P X (K k) (F k) a w → headIn Fence.wide 0 P cx (PostJ P X (F a0).N Q) a w := by
      intro n
      induction n using Nat.strongRecOn with
      | _ n ih =>
        intro k a w hk hμ hN hI
        refine head_round (wpIn_mono (h k hk cx (by rw [hN]; exact hc) hp ho a w hI) ?_)
        rintro e a' w' ⟨ex, κ', s, rfl, h1, h2, h3⟩
        cases ex with
        | normal =>
          obtain ⟨k', hk', hlt, rfl, rfl⟩ := h1
          exact ih (μ k') (by omega) k' a' w' hk' rfl (h2.trans hN) h3
        | exit i => exact ⟨.exit i, κ', s, rfl, h1, h2.trans hN, h3⟩
        | ret => exact ⟨.ret, κ', s, rfl, h1, h2.trans hN, h3⟩
    exact head_loop (key _ a0 a w h0 rfl rfl hI)
  | region id ops draw => simp only [slimC] at hc; (repeat' split at hc) <;> simp at hc
  | _ => simp [slimC] at hc
theorem IJ.put {κ : Option Nat} (h : IJ P X κ F a w) {d : Nat} (hd : d < F.N) (v : Value) : IJ P X κ (F.put (some d) (.sc v)) (a.put (some d) v) w := by
  obtain ⟨hR, hJ⟩ := h
  refine ⟨⟨hR.keep, hR.heap, by rw [put_size]; exact hR.size, fun t => ?_, fun t => ?_, by rw [put_defers']; exact hR.defers, hR.fr, hR.ext, hR.lc, hR.lc1, hR.tabs⟩, hJ⟩
  · show Rd X.Gi w (upd F.tm d (.sc v) t) ((a.tmps.setIfInBounds d v).getD t undef)
    have hsz : d < a.tmps.size := by rw [hR.size]; exact hd
    rw [upd_at]
    by_cases e : t = d
    · subst e
      rw [if_pos rfl, Array.getD_eq_getD_getElem?, Array.getElem?_setIfInBounds_self_of_lt hsz]
      simp [Rd]
    · rw [if_neg e, Array.getD_eq_getD_getElem?, Array.getElem?_setIfInBounds_ne (Ne.symm e), ← Array.getD_eq_getD_getElem?]
      exact hR.tm t
  · show (upd F.tm d (.sc v) t).gl _
    rw [upd_at]
    by_cases e : t = d
    · rw [if_pos e]; simp [AV.gl]
    · rw [if_neg e]; exact hR.gl t
omit [Tabs P] in
theorem slimO_callv {N d : Nat} {q : Bool} {ops : Array Oper} {o : Oper} {h : Bool} {x : Operand} {args : List Operand} (hs : slimO P N q ops o = some ⟨some d, .callv h x args, none⟩) : o.dst = some d ∧ o.guard = none ∧ ∃ h', slimOp P o = .callv h' x args := by
  unfold slimO at hs
  split at hs
  · split at hs
    · rename_i hg
      simp only [Option.some.injEq, SOper.mk.injEq] at hs
      obtain ⟨h1, h2, -⟩ := hs
      refine ⟨h1, hg, ?_⟩
      have := weak_weak (P := P) ops o q
      rw [h2] at this
      cases hh : slimOp P o <;> rw [hh] at this <;> simp only [SOp.weak] at this <;> first | (cases this; done) | skip
      rename_i h' x' args'
      simp only [SOp.callv.injEq, true_and] at this
      obtain ⟨rfl, rfl⟩ := this
      exact ⟨_, rfl⟩
    · split at hs
      · split at hs
        · simp at hs
        · cases hs
      · cases hs
  · cases hs
set_option maxHeartbeats 1000000 in
theorem SJ.yield (hX : X.Ok P) {A B : List SOper} {d t k : Nat} {h : Bool} {x : Operand} {v : Value} {Q : Ex → Option Nat → ASt → Prop}
    (hA : AOps P A (fun s => ev P s (.tmp t) = .sc (.func (.yield X.l) #[] #[]) ∧ ev P s x = .sc v ∧ Le s F) st) (hok : okF X F) (hdN : d < st.N) (hv : X.xs[k]? = some v)
    (hB : ∀ b : Bool, AOps P B (fun s => ∃ F', Le s F' ∧ okF X F' ∧ Q .normal (if b then some (k + 1) else none) F') (F.put (some d) (.sc (.bool b)))) :
    SJ P X (.reg (A ++ ⟨some d, .callv h (.tmp t) [x], none⟩ :: B)) (some k) Q st := by
  intro code hc hp ho a w hI
  cases code with
  | region id ops draw =>
    simp only [ordC, Bool.not_eq_true'] at ho
    subst ho
    simp only [slimC] at hc
    split at hc
    · rename_i sl sl' hsl hsl'
      simp only [Bool.false_eq_true, if_false, SCode.reg.injEq] at hc
      subst hc
      have hlen := (mapM_get hsl).1
      rw [List.length_append, List.length_cons] at hlen
      refine wpIn_region ?_
      have hr : List.range ops.size = List.range' 0 A.length ++ (A.length :: (List.range' (A.length + 1) B.length ++ [])) := by
        rw [← hlen, List.range_eq_range', List.append_nil, ← List.range'_succ, ← List.range'_append_1]
        simp
      rw [hr]
      refine ops_pre hsl noOutJ A 0 _ _ st X.Gi a w (fun j s hj => by rw [Nat.zero_add, List.getElem?_append_left (lt_of_get hj)]; exact hj) rfl hI.1 hA ?_
      rintro s1 G1 a1 w1 ⟨e1, e2, hle⟩ hN1 hR1
      have hF := hI.piece hX hR1 hle hok
      have hFN : F.N = st.N := by rw [hle.N, hN1]
      rw [wpOpsIn_cons]
      have hi : A.length < ops.size := by omega
      have ho : ops[A.length]? = some ops[A.length] := Array.getElem?_eq_getElem hi
      obtain ⟨s', hs1, hs2⟩ := (mapM_get hsl).2 _ _ ho
      rw [List.getElem?_append_right (Nat.le_refl _), Nat.sub_self] at hs1
      simp only [List.getElem?_cons_zero, Option.some.injEq] at hs1
      subst hs1
      obtain ⟨hd, hg, h', hcv⟩ := slimO_callv hs2
      unfold wpOpIn
      rw [ho]
      simp only
      rw [if_pos (by simp [Region.wanted, hg])]
      have v1 : a1.eval (.tmp t) = .func (.yield X.l) #[] #[] := by
        have := hR1.ev (.tmp t)
        rw [e1] at this
        exact this.sc_inv
      have v2 : a1.eval x = v := by
        have := hR1.ev x
        rw [e2] at this
        exact this.sc_inv
      obtain ⟨fn, tmps, assign, body, hy, hri⟩ := hX.round k v w1 hF.2 hv
      refine ⟨fun _ _ => trivial, ?_⟩
      rw [show ops[A.length].semAt Fence.wide.round a1.eval = execOp a1.eval ops[A.length] from Oper.semAt_none _ _, yield_exec hcv a1 v1 w1]
      simp only [List.map_cons, List.map_nil, v2]
      rw [hy]
      refine ⟨(fun h => by cases h), RoundIn.mono (roundIn_wide hri) ?_⟩
      rintro e w2 ⟨hst, hcase⟩
      have fin : ∀ b : Bool, X.Jo (if b then some (k + 1) else none) w2 → wpOpsIn Fence.wide 0 P ops (PostJ P X st.N Q) (List.range' (A.length + 1) B.length ++ []) (a1.put ops[A.length].dst (.bool b)) w2 := fun b hJ => by
        rw [hd]
        have h2 := (hF.round hX hst hJ).put (d := d) (by rw [hFN]; exact hdN) (.bool b)
        refine ops_pre hsl noOutJ B (A.length + 1) [] _ _ X.Gi _ w2 (fun j s hj => ?_) (by show F.N = st.N; exact hFN) h2.1 (hB b) ?_
        · rw [List.getElem?_append_right (by omega), show A.length + 1 + j - A.length = j + 1 by omega, List.getElem?_cons_succ]
          exact hj
        · rintro s3 G3 a3 w3 ⟨F', hle', hok', hq⟩ hN3 hR3
          exact ⟨.normal, _, F', rfl, hq, by rw [hle'.N, hN3], h2.piece hX hR3 hle' hok'⟩
      rcases hcase with ⟨rfl, hJ⟩ | ⟨rfl, hJ⟩
      · exact fin true hJ
      · exact fin false hJ
    · simp at hc
  | _ => simp [slimC] at hc
def finJ (n : Nat) : Ex → Option Nat → ASt → Prop
  | .exit _, _, _ => False
  | _, κ, _ => κ = none ∨ κ = some n
def startJ (N l : Nat) (caps : List AV) (hin : List (Nat × Nat × List AV)) (gc : Nat) : ASt := ⟨fun t => (AV.sc (.func (.yield l) #[] #[]) :: caps).getD t .junk, lookH (hin.map fun q => (q.1, q.2.1, AO.row false q.2.2)), gc, N⟩
theorem look_hin : ∀ {hin : List (Nat × Nat × List AV)}, (hin.map (·.1)).Nodup → ∀ q ∈ hin, lookH (hin.map fun q => (q.1, q.2.1, AO.row false q.2.2)) q.1 = some (q.2.1, .row false q.2.2)
  | [], _, q, hq => by cases hq
  | r :: hin, hnd, q, hq => by
    simp only [List.map_cons, List.nodup_cons] at hnd
    simp only [List.map_cons, lookH]
    rcases List.mem_cons.1 hq with rfl | hq
    · rw [if_pos rfl]
    · rw [if_neg (fun e => hnd.1 (by rw [← e]; exact List.mem_map.2 ⟨q, hq, rfl⟩))]
      exact look_hin hnd.2 q hq
open Classical in
theorem ItCon.of {gf N gc : Nat} {fn : Func} {S : SCode} {caps : List AV} {hin : List (Nat × Nat × List AV)} {xs : List Value} (hf : P.funcs[gf]? = some fn) (hb : fn.body.isSome = true) (hN : fn.ntmps = N) (hs : slimC P N (fn.body.getD .skip) = S)
    (hpl : plainC (fn.body.getD .skip) = true) (hord : ordC (fn.body.getD .skip) = true) (hrs : slimRes P fn = some []) (hn : caps.length + 1 ≤ N)
    (hcaps : AV.gl.glL gc caps) (hcells : ∀ q ∈ hin, ∀ c ∈ q.2.2, ∃ v, c = .sc v) (hgc : ∀ q ∈ hin, q.2.1 < gc) (hnd : (hin.map (·.1)).Nodup)
    (h : ∀ X : IterD, X.Ok P → X.xs = xs → (∀ id g ob, X.Gi.ob id g = some ob → ∃ q ∈ hin, q.1 = id ∧ q.2.1 = g) → (∀ q ∈ hin, ∃ b, X.Gi.ob q.1 q.2.1 = some (some b)) → SJ P X S (some 0) (finJ xs.length) (startJ N X.l caps hin gc)) : ItCon P gf caps hin xs := by
  intro G w lb htab hlt hrd hown hinj l J Jx hst hstx hround hJ0
  obtain ⟨code, hc⟩ := Option.isSome_iff_exists.1 hb
  rw [hc] at hs hpl hord
  simp only [Option.getD_some] at hs hpl hord
  subst hN
  obtain ⟨Gi, hGi⟩ : ∃ Gi : Gh, Gi = ⟨G.S, fun id g => if ∃ q ∈ hin, q.1 = id ∧ q.2.1 = g then G.ob id g else none⟩ := ⟨_, rfl⟩
  have hS : Gi.S = G.S := by rw [hGi]
  have hsub : ∀ id g ob, Gi.ob id g = some ob → G.ob id g = some ob ∧ ∃ q ∈ hin, q.1 = id ∧ q.2.1 = g := fun id g ob h => by
    rw [hGi] at h
    simp only at h
    split at h
    · rename_i hq
      exact ⟨h, hq⟩
    · cases h
  have hin' : ∀ q ∈ hin, Gi.ob q.1 q.2.1 = G.ob q.1 q.2.1 := fun q hq => by
    rw [hGi]
    simp only
    rw [if_pos ⟨q, hq, rfl, rfl⟩]
  have hE : Ext gc G w Gi w := ⟨fun b hb => by rw [hS]; exact hb, fun _ _ => rfl, fun _ _ h => h, fun id g ob _ h => (hsub id g ob h).1⟩
  have hX : IterD.Ok ⟨J, Jx, fun b => ∃ q ∈ hin, G.ob q.1 q.2.1 = some (some b), Gi, l, xs⟩ P := by
    refine ⟨hst, hstx, fun k x w h1 h2 => ?_, fun b => ⟨fun ⟨id, g, h⟩ => ?_, fun ⟨q, hq, h⟩ => ⟨q.1, q.2.1, by rw [hin' q hq]; exact h⟩⟩⟩
    · show YieldAt Fence.wide 0 P l #[x] w fun e w' => RStep Gi.S _ w w' ∧ _
      rw [hS]
      exact hround k x w h1 h2
    · obtain ⟨h1, q, hq, e1, e2⟩ := hsub id g _ h
      exact ⟨q, hq, by rw [e1, e2]; exact h1⟩
  have hrd2 : RdL Gi w (AV.sc (.func (.yield l) #[] #[]) :: caps) (.func (.yield l) #[] #[] :: lb) := by
    simp only [RdL]
    exact ⟨_, _, rfl, by simp [Rd], RdL.mono hE _ _ hcaps hrd⟩
  have hlen : lb.length = caps.length := hrd.length
  have hR : R P w Gi.reg ⟨Gi, gc, [], gc⟩ Gi (startJ fn.ntmps l caps hin gc) { tmps := (#[Value.func (.yield l) #[] #[]] ++ lb.toArray) ++ Array.replicate (fn.ntmps - (#[Value.func (.yield l) #[] #[]] ++ lb.toArray).size) undef, defers := [] } w := by
    refine ⟨Keep.refl _ _ _, ⟨fun b hb => hlt b (by rw [← hS]; exact hb), fun id g ob h => ?_, fun id g nl cells h => ?_, fun id g id' g' b h1 h2 => hinj _ _ _ _ _ (hsub _ _ _ h1).1 (hsub _ _ _ h2).1, fun id g nl cells h => ?_⟩, ?_, fun t => ?_, fun t => ?_, rfl, fun b hb => .inl hb, Ext.refl _ _ _, Nat.le_refl _, Nat.le_refl _, by rw [hS]; exact htab⟩
    · obtain ⟨_, q, hq, rfl, rfl⟩ := hsub id g ob h
      exact ⟨_, look_hin hnd q hq⟩
    · rcases lookH_or (hin.map fun q => (q.1, q.2.1, AO.row false q.2.2)) id with ⟨p, h1, rfl, h3⟩ | h1
      · obtain ⟨q, hq, rfl⟩ := List.mem_map.1 h1
        rw [show (startJ fn.ntmps l caps hin gc).hp = lookH (hin.map fun q => (q.1, q.2.1, AO.row false q.2.2)) from rfl, h3] at h
        simp only [Option.some.injEq, Prod.mk.injEq, AO.row.injEq] at h
        obtain ⟨rfl, rfl, rfl⟩ := h
        refine ⟨hgc q hq, ?_⟩
        have : ∀ xs : List AV, (∀ c ∈ xs, ∃ v, c = AV.sc v) → AV.gl.glL gc xs := fun xs hx => by
          induction xs with
          | nil => simp [AV.gl.glL]
          | cons c xs ih =>
            obtain ⟨v, rfl⟩ := hx c (by simp)
            simp only [AV.gl.glL]
            exact ⟨by simp [AV.gl], ih fun c h => hx c (by simp [h])⟩
        exact this _ (hcells q hq)
      · rw [show (startJ fn.ntmps l caps hin gc).hp = lookH (hin.map fun q => (q.1, q.2.1, AO.row false q.2.2)) from rfl, h1] at h
        cases h
    · rcases lookH_or (hin.map fun q => (q.1, q.2.1, AO.row false q.2.2)) id with ⟨p, h1, rfl, h3⟩ | h1
      · obtain ⟨q, hq, rfl⟩ := List.mem_map.1 h1
        rw [show (startJ fn.ntmps l caps hin gc).hp = lookH (hin.map fun q => (q.1, q.2.1, AO.row false q.2.2)) from rfl, h3] at h
        simp only [Option.some.injEq, Prod.mk.injEq, AO.row.injEq] at h
        obtain ⟨rfl, rfl, rfl⟩ := h
        obtain ⟨b, vs, k1, k2, k3, k4, k5⟩ := hown q hq
        refine ⟨some b, (hin' q hq).trans k1, by simp, by simp, fun b' hb' => ?_⟩
        cases hb'
        exact ⟨by rw [hS]; exact k2, .inr ⟨q.1, q.2.1, (hin' q hq).trans k1⟩, vs, rdL_scal (hcells q hq) k4, k5⟩
      · rw [show (startJ fn.ntmps l caps hin gc).hp = lookH (hin.map fun q => (q.1, q.2.1, AO.row false q.2.2)) from rfl, h1] at h
        cases h
    · simp [startJ]; omega
    · simp only [startJ]
      cases hi : (AV.sc (.func (.yield l) #[] #[]) :: caps)[t]? with
      | none => simp [List.getD, hi, Rd]
      | some x =>
        obtain ⟨v, hv, hr⟩ := hrd2.get t x hi
        have hlt' : t < (#[Value.func (.yield l) #[] #[]] ++ lb.toArray).size := by
          have := lt_of_get hv
          simp at this ⊢
          omega
        have : ((#[Value.func (.yield l) #[] #[]] ++ lb.toArray) ++ Array.replicate (fn.ntmps - (#[Value.func (.yield l) #[] #[]] ++ lb.toArray).size) undef).getD t undef = v := by
          rw [Array.getD_eq_getD_getElem?, Array.getElem?_append_left hlt']
          have : (#[Value.func (.yield l) #[] #[]] ++ lb.toArray)[t]? = (Value.func (.yield l) #[] #[] :: lb)[t]? := by
            rw [← Array.getElem?_toList]; simp
          rw [this, hv]
          rfl
        simp only [List.getD, hi, Option.getD_some]
        rw [this]
        exact hr
    · simp only [startJ]
      cases hi : (AV.sc (.func (.yield l) #[] #[]) :: caps)[t]? with
      | none => simp [List.getD, hi, AV.gl]
      | some x =>
        simp only [List.getD, hi, Option.getD_some]
        exact glL_iff.1 (show AV.gl.glL gc (AV.sc (.func (.yield l) #[] #[]) :: caps) from ⟨by simp [AV.gl], hcaps⟩) x (List.mem_of_getElem? hi)
  have hw := h _ hX rfl (fun id g ob h => (hsub id g ob h).2) (fun q hq => by
    obtain ⟨b, vs, k1, _⟩ := hown q hq
    exact ⟨b, (hin' q hq).trans k1⟩) code hs hpl hord _ w ⟨hR, hJ0⟩
  refine callsIn_of_wp_marks hf hc trivial (wpIn_mono hw ?_)
  rintro e a' w' ⟨ex, κ, s, rfl, hq, hNs, hI⟩
  obtain ⟨he, hκ⟩ : (Ex.out ex = .normal ∨ Ex.out ex = .ret) ∧ (κ = none ∨ κ = some xs.length) := by
    cases ex with
    | normal => exact ⟨.inl rfl, hq⟩
    | ret => exact ⟨.inr rfl, hq⟩
    | exit id => exact hq.elim
  obtain ⟨v, k1, -, -⟩ := results_run hI.1 hrs trivial
  have hfin : (∃ v', Ending.returned v = .returned v') ∧ (J xs.length w' ∨ Jx w') := by
    refine ⟨⟨_, rfl⟩, ?_⟩
    rcases hκ with rfl | rfl
    · exact .inr hI.2
    · exact .inl hI.2
  rcases he with he | he
  all_goals
    rw [he]
    show LeavesInM Fence.wide 0 P fn a'.tmps _ a'.defers .returning w'
    rw [hI.1.defers]
    exact ⟨v, k1, hfin⟩
end
end Go.Proofs.YtbmmdkbinlnogaaDoor.Aw
