/- Parts of the proofs of Eo. -/
import Derived.Test.YtbmmdkbinlnogaaDoorQEoAN
import Derived.OrdersIn
namespace Go.Proofs.YtbmmdkbinlnogaaDoor.Aw
open Go
set_option linter.unusedSimpArgs false
set_option linter.unusedVariables false
def FenR (rd : Option Nat) : Fence := { Fence.wide with round := rd }
def plainC : Code → Bool
  | .rangeFunc .. => false
  | .seq a b => plainC a && plainC b
  | .cond _ a b => plainC a && plainC b
  | .block _ b => plainC b
  | .loop b => plainC b
  | .scope b => plainC b
  | .region _ ops _ => ops.all fun o => match o.op with
    | .defer _ => false
    | _ => true
  | _ => true
def wpR (P : Program) (c : Code) (Q : Exit → Act → World → Prop) (a : Act) (w : World) : Prop := ∀ (rd : Option Nat) (n : Nat), (rd = none ∨ plainC c = true) → c.wpIn (FenR rd) n P Q a w
section
variable {P : Program} {Q : Exit → Act → World → Prop} {a : Act} {w : World}
theorem calls_fr {rd : Option Nat} {n : Nat} {f : FuncId} {args : Array Value} {R : Ending → World → Prop} (h : Calls P f args w R) : CallsIn (FenR rd) n P f args w R :=
  show CallsIn Fence.wide n P f args w R from callsIn_wide.2 h
theorem rows_fr {rd : Option Nat} {n : Nat} {row : String} {args : Array Value} {R : Value → World → Prop} (h : Rows P row args w R) : RowsIn (FenR rd) n P row args w R :=
  fun c cs _ => let ⟨v, w', r, s⟩ := h c cs; ⟨v, w', r, (stepsIn_wide (P := P)).2 s⟩
theorem op_fr {rd : Option Nat} {n : Nat} {o : Oper} {next : Act → World → Prop} (hd : rd = none ∨ ∀ c, o.op ≠ .defer c) (h : o.wp P a w next Q) : o.wpIn (FenR rd) n P a w next Q := by
  refine ⟨fun _ _ => trivial, ?_⟩
  have e : o.semAt (FenR rd).round a.eval = execOp a.eval o := by
    rcases hd with rfl | hd
    · exact Oper.semAt_none _ _
    · exact Oper.semAt_eq _ _ _ hd
  rw [e]
  have hp : (FenR rd).depth.isSome = true → 1 ≤ n := fun h => by cases h
  unfold Oper.wp at h
  generalize (execOp a.eval o).run P w = r at *
  cases r with
  | ok x w' =>
    cases x <;> simp only [Oper.upon, Oper.uponIn] at h ⊢ <;>
      first
        | exact h
        | exact ⟨hp, calls_fr h⟩
        | exact ⟨hp, rows_fr h⟩
        | exact h.elim
  | halt x w' => cases x <;> simp only [Oper.upon, Oper.uponIn] at h ⊢ <;> exact h
theorem wpOp_fr {rd : Option Nat} {n : Nat} {ops : Array Oper} {i : Nat} {K : Act → World → Prop} (hd : rd = none ∨ ∀ (i : Nat) (o : Oper), ops[i]? = some o → ∀ c, o.op ≠ .defer c) (hQ : ¬ LetsOut Q) (h : wpOp P ops Q i K a w) : wpOpIn (FenR rd) n P ops Q i K a w := by
  unfold wpOp at h
  unfold wpOpIn
  split at h
  · rename_i hi
    rw [hi]
    exact h
  · rename_i o hi
    rw [hi]
    simp only
    split at h
    · rename_i hw
      rw [if_pos hw]
      exact op_fr (hd.imp id fun hd => hd i o hi) (h.resolve_right fun h => hQ h.2)
    · rename_i hw
      rw [if_neg hw]
      exact ⟨fun _ _ => trivial, h⟩
theorem wpOps_fr {rd : Option Nat} {n : Nat} {ops : Array Oper} (hd : rd = none ∨ ∀ (i : Nat) (o : Oper), ops[i]? = some o → ∀ c, o.op ≠ .defer c) (hQ : ¬ LetsOut Q) : ∀ (l : List Nat) (a : Act) (w : World), wpOps P ops Q l a w → wpOpsIn (FenR rd) n P ops Q l a w
  | [], _, _, h => by simpa [wpOps, wpOpsIn] using h
  | i :: l, a, w, h => by
    rw [wpOps_cons] at h
    rw [wpOpsIn_cons]
    exact wpOp_fr hd hQ (wpOp_mono (fun a w => wpOps_fr hd hQ l a w) h)
theorem wpAny_fr {rd : Option Nat} {n : Nat} {ops : Array Oper} {md : Region.Mode} (hd : rd = none ∨ ∀ (i : Nat) (o : Oper), ops[i]? = some o → ∀ c, o.op ≠ .defer c) (hQ : ¬ LetsOut Q) : ∀ (fuel : Nat) (listed : Array Bool) (a : Act) (w : World), wpAny P md ops Q fuel listed a w → wpAnyIn (FenR rd) n P md ops Q fuel listed a w
  | 0, _, _, _, h => h
  | fuel + 1, listed, a, w, h => ⟨h.1, fun i hi => wpOp_fr hd hQ (wpOp_mono (fun a w => wpAny_fr hd hQ fuel _ a w) (h.2 i hi))⟩
theorem nodefer {rd : Option Nat} {id : Nat} {ops : Array Oper} {draw : Bool} (h : rd = none ∨ plainC (.region id ops draw) = true) : rd = none ∨ ∀ (i : Nat) (o : Oper), ops[i]? = some o → ∀ c, o.op ≠ .defer c := by
  refine h.imp_right fun h i o hi c hc => ?_
  simp only [plainC, Array.all_eq_true] at h
  obtain ⟨hlt, ho⟩ := Array.getElem?_eq_some_iff.1 hi
  have := h i hlt
  rw [ho, hc] at this
  cases this
theorem wpR_mono {c : Code} {Q' : Exit → Act → World → Prop} (h : wpR P c Q a w) (hq : ∀ e a w, Q e a w → Q' e a w) : wpR P c Q' a w := fun rd n hp => wpIn_mono (h rd n hp) hq
theorem wpR_region_any {id : Nat} {ops : Array Oper} (hm : P.follows .mixedOrders = true) (hQ : ¬ LetsOut Q) (h : wpAny P .any ops Q ops.size (Array.replicate ops.size false) a { w with drawn := w.drawn + 1 }) : wpR P (.region id ops true) Q a w :=
  fun _ _ hp => wpIn_region_any hm (wpAny_fr (nodefer hp) hQ _ _ _ _ h)
theorem wpR_region {id : Nat} {ops : Array Oper} (hQ : ¬ LetsOut Q) (h : wpOps P ops Q (List.range ops.size) a w) : wpR P (.region id ops false) Q a w :=
  fun _ _ hp => wpIn_region (wpOps_fr (nodefer hp) hQ _ _ _ h)
theorem wpR_skip (h : Q .normal a w) : wpR P .skip Q a w := fun _ _ _ => wpIn_skip h
theorem wpR_exit {id : Nat} (h : Q (.exit id) a w) : wpR P (.exit id) Q a w := fun _ _ _ => wpIn_exit h
theorem wpR_ret (h : Q .ret a w) : wpR P .ret Q a w := fun _ _ _ => wpIn_ret h
theorem wpR_seq {x y : Code} (h : wpR P x (Exit.then (wpR P y Q) Q) a w) : wpR P (.seq x y) Q a w := fun rd n hp => by
  have h1 : rd = none ∨ plainC x = true := hp.imp_right fun h => by simp only [plainC, Bool.and_eq_true] at h; exact h.1
  have h2 : rd = none ∨ plainC y = true := hp.imp_right fun h => by simp only [plainC, Bool.and_eq_true] at h; exact h.2
  refine wpIn_seq (wpIn_mono (h rd n h1) fun e a w h => ?_)
  cases e with
  | normal => exact h rd n h2
  | _ => exact h
theorem wpR_cond_split {c : Operand} {x y : Code} {t : Bool} (hc : a.eval c = .bool t) (ht : t = true → wpR P x Q a w) (hf : t = false → wpR P y Q a w) : wpR P (.cond c x y) Q a w := fun rd n hp =>
  wpIn_cond_split hc (fun e => ht e rd n (hp.imp_right fun h => by simp only [plainC, Bool.and_eq_true] at h; exact h.1)) (fun e => hf e rd n (hp.imp_right fun h => by simp only [plainC, Bool.and_eq_true] at h; exact h.2))
theorem wpR_block {id : Nat} {c : Code} (h : wpR P c (Exit.inBlock id Q) a w) : wpR P (.block id c) Q a w := fun rd n hp => wpIn_block (h rd n (hp.imp_right fun h => by simpa only [plainC] using h))
def headIn (F : Fence) (n : Nat) (P : Program) (c : Code) (Q : Exit → Act → World → Prop) (a : Act) (w : World) : Prop :=
  ∀ (b : Frame) (k : List Item) (cs : List Frame), b.roundOf = F.round → F.fn b.fn → F.room (cs.length + 1 + n) →
    ∃ e a' w', Q e a' w' ∧ ArrivesIn (Machine.fenced P F) P (lone (b.atR a (.code c :: .inLoop c :: k)) cs w) b k cs e a' w'
theorem head_loop {F : Fence} {n : Nat} {c : Code} (h : headIn F n P c Q a w) : (Code.loop c).wpIn F n P Q a w := by
  intro b k cs hro hb hr
  obtain ⟨e, a', w', hq, harr⟩ := h b k cs hro hb hr
  exact ⟨e, a', w', hq, .of_steps (.one (fenced_calm hb hr rfl) stepR_loop) harr⟩
theorem head_round {F : Fence} {n : Nat} {c : Code} (h : c.wpIn F n P (Exit.then (headIn F n P c Q) Q) a w) : headIn F n P c Q a w := by
  intro b k cs hro hb hr
  obtain ⟨e, a₁, w₁, hq, harr⟩ := h b (.inLoop c :: k) cs hro hb hr
  cases e with
  | normal =>
    obtain ⟨e₂, a₂, w₂, hq₂, harr₂⟩ := hq b k cs hro hb hr
    exact ⟨e₂, a₂, w₂, hq₂, .of_steps (StepsIn.trans harr (.one (fenced_calm hb hr rfl) stepR_inLoop)) harr₂⟩
  | exit id => exact ⟨_, a₁, w₁, hq, .pass (x := .inLoop c) rfl (fun _ _ => .inl (by simp)) harr⟩
  | goto l => exact ⟨_, a₁, w₁, hq, .pass (x := .inLoop c) rfl (fun _ _ => .inl (by simp)) harr⟩
  | ret => exact ⟨_, a₁, w₁, hq, .pass (x := .inLoop c) rfl (fun _ _ => .inl (by simp)) harr⟩
  | panic ch => exact ⟨_, a₁, w₁, hq, .pass (x := .inLoop c) rfl (fun _ _ => .inl (by simp)) harr⟩
  | outgrown => exact ⟨_, a₁, w₁, hq, .pass (x := .inLoop c) rfl (fun _ _ => .inl (by simp)) harr⟩
def headR (P : Program) (c : Code) (Q : Exit → Act → World → Prop) (a : Act) (w : World) : Prop := ∀ (rd : Option Nat) (n : Nat), (rd = none ∨ plainC c = true) → headIn (FenR rd) n P c Q a w
theorem headR_loop {c : Code} (h : headR P c Q a w) : wpR P (.loop c) Q a w := fun rd n hp => head_loop (h rd n (hp.imp_right fun h => by simpa only [plainC] using h))
theorem headR_round {c : Code} (h : wpR P c (Exit.then (headR P c Q) Q) a w) : headR P c Q a w := fun rd n hp => head_round (wpIn_mono (h rd n hp) fun e a w h => by
  cases e with
  | normal => exact h rd n hp
  | _ => exact h)
theorem headR_mono {c : Code} {Q' : Exit → Act → World → Prop} (h : headR P c Q a w) (hq : ∀ e a w, Q e a w → Q' e a w) : headR P c Q' a w := fun rd n hp b k cs h1 h2 h3 =>
  let ⟨e, a', w', q, r⟩ := h rd n hp b k cs h1 h2 h3
  ⟨e, a', w', hq _ _ _ q, r⟩
end
end Go.Proofs.YtbmmdkbinlnogaaDoor.Aw
