/- Parts of the proofs of Eo. -/
import Derived.Test.YtbmmdkbinlnogaaDoorQEoBF
namespace Go.Proofs.YtbmmdkbinlnogaaDoor.Aw
open Go
set_option linter.unusedSimpArgs false
set_option linter.unusedVariables false
structure IStep (Own : Nat → Prop) (w w' : World) : Prop where
  os : w'.os = w.os
  tape : w'.tape = w.tape
  output : w'.output = w.output
  size : w.heap.size ≤ w'.heap.size
  block : ∀ b, b < w.heap.size → ¬ Own b → w'.heap[b]? = w.heap[b]?
  shape : ∀ b p, w.shape? b = some p → w'.shape? b = some p
structure RStep (S0 Own : Nat → Prop) (w w' : World) : Prop where
  os : w'.os = w.os
  tape : w'.tape = w.tape
  output : w'.output = w.output
  size : w.heap.size ≤ w'.heap.size
  block : ∀ b, b < w.heap.size → (S0 b ∨ Own b) → w'.heap[b]? = w.heap[b]?
  shape : ∀ b p, w.shape? b = some p → w'.shape? b = some p
def ItOk (P : Program) (gf : Nat) (lb : Array Value) (xs : List Value) (S0 Own : Nat → Prop) (W : World) : Prop :=
  ∀ (l : Nat) (J : Nat → World → Prop) (Jx : World → Prop),
    (∀ k w w', J k w → IStep Own w w' → J k w') → (∀ w w', Jx w → IStep Own w w' → Jx w') →
    (∀ k x w, J k w → xs[k]? = some x → YieldAt Fence.wide 0 P l #[x] w fun e w' => RStep S0 Own w w' ∧ ((e = .returned (.bool true) ∧ J (k + 1) w') ∨ (e = .returned (.bool false) ∧ Jx w'))) →
    J 0 W → CallsIn Fence.wide 0 P gf (#[.func (.yield l) #[] #[]] ++ lb) W fun e w' => (∃ v, e = .returned v) ∧ (J xs.length w' ∨ Jx w')
def ItCon (P : Program) [Tabs P] (gf : Nat) (caps : List AV) (hin : List (Nat × Nat × List AV)) (xs : List Value) : Prop :=
  ∀ (G : Gh) (w : World) (lb : List Value), TabOk P G.S w → (∀ b, G.S b → b < w.heap.size) → RdL G w caps lb →
    (∀ q ∈ hin, ∃ b vs, G.ob q.1 q.2.1 = some (some b) ∧ ¬ G.S b ∧ b < w.heap.size ∧ RdL G w q.2.2 vs ∧ Blk w.heap[b]? vs) →
    (∀ id g id' g' b, G.ob id g = some (some b) → G.ob id' g' = some (some b) → id = id') →
    ItOk P gf lb.toArray xs G.S (fun b => ∃ q ∈ hin, G.ob q.1 q.2.1 = some (some b)) w
def onlyN (K : ASt → Prop) : Ex → ASt → Prop
  | .normal, s => K s
  | _, _ => False
def rq (Q : Ex → ASt → Prop) {α : Type} (I : α → Nat → Prop) (T : Nat → AV) (F : α → Hp × Nat) (k : Nat) : Ex → ASt → Prop
  | .normal, s => ∃ c, I c k ∧ Le ⟨T, s.hp, s.gc, s.N⟩ ⟨T, (F c).1, (F c).2, s.N⟩
  | e, s => Q e ⟨T, s.hp, s.gc, s.N⟩
theorem rq_ret {Q : Ex → ASt → Prop} {α : Type} {I : α → Nat → Prop} {T : Nat → AV} {F : α → Hp × Nat} {k : Nat} {s : ASt} : rq Q I T F k .ret s = Q .ret ⟨T, s.hp, s.gc, s.N⟩ := rfl
section
variable {P : Program} [Tabs P] {w0 : World} {M : Nat → Prop} {Z : Beg} {G G' : Gh} {st st' : ASt} {a a' : Act} {w w' : World}
theorem R.mild (hR : R P w0 M Z G st a w) (ho : w'.os = w.os) (ht : w'.tape = w.tape) (hp : w'.output = w.output) (hsz : w.heap.size ≤ w'.heap.size)
    (hblk : ∀ b, b < w.heap.size → (G.S b ∨ G.reg b ∨ (b < w0.heap.size ∧ ¬ M b)) → w'.heap[b]? = w.heap[b]?) (hsh : ∀ b p, w.shape? b = some p → w'.shape? b = some p) : R P w0 M Z G st a w' := by
  have hE : Ext st.gc G w G w' := ⟨fun _ h => h, fun b hb => hblk b (hR.heap.lt b hb) (.inl hb), hsh, fun _ _ _ _ h => h⟩
  refine ⟨⟨ho.trans hR.keep.os, ht.trans hR.keep.tape, hp.trans hR.keep.output, Nat.le_trans hR.keep.size hsz, fun k h1 h2 => (hblk k (Nat.lt_of_lt_of_le h1 hR.keep.size) (.inr (.inr ⟨h1, h2⟩))).trans (hR.keep.block k h1 h2)⟩,
    ⟨fun b hb => Nat.lt_of_lt_of_le (hR.heap.lt b hb) hsz, hR.heap.live, hR.heap.gl, hR.heap.inj, ?_⟩, hR.size, fun t => Rd.mono hE _ _ (hR.gl t) (hR.tm t), hR.gl, hR.defers, hR.fr, hR.ext.trans hR.lc hE, hR.lc, hR.lc1, hR.tabs.mono hE.S hE.cells⟩
  intro id g nl cells hid
  obtain ⟨ob, h1, h2, h3, h4⟩ := hR.heap.row _ _ _ _ hid
  refine ⟨ob, h1, h2, h3, fun b hb => ?_⟩
  obtain ⟨k1, k2, vs, k4, k3⟩ := h4 b hb
  refine ⟨k1, k2, vs, RdL.mono hE _ _ (hR.heap.gl _ _ _ _ hid).2 k4, ?_⟩
  rw [hblk b k3.lt (.inr (.inl ⟨id, g, by rw [h1, hb]⟩))]
  exact k3
theorem mild_put {l : Nat} {o : Obj} {o' : Obj} (h : w.heap[l]? = some o) (hc : o.isCells = false) {b : Nat} {p : TypeId × Nat} (hs : w.shape? b = some p) : (w.putObj l o').shape? b = some p := by
  by_cases e : b = l
  · subst e
    unfold World.shape? at hs
    rw [h] at hs
    cases o <;> first | (cases hs; done) | (simp [Obj.isCells] at hc)
  · unfold World.shape? at hs ⊢
    rw [World.putObj_heap_other e]
    exact hs
theorem R.notOwn (hR : R P w0 M Z G st a w) {l : Nat} {r : Loop} (hl : w.heap[l]? = some (.loop r)) : ¬ G.reg l := by
  rintro ⟨id, g, h⟩
  obtain ⟨⟨nl, cells⟩, ho⟩ := hR.heap.live _ _ _ h
  obtain ⟨ob, k1, _, _, k4⟩ := hR.heap.row _ _ _ _ ho
  rw [h] at k1; cases k1
  obtain ⟨_, _, vs, _, hb⟩ := k4 l rfl
  rcases hb with ⟨cs, E, h, _⟩ | ⟨es, ck, h, _⟩
  · rw [hl] at h; cases h
  · rw [hl] at h; cases h
theorem R.putLoop (hR : R P w0 M Z G st a w) {l : Nat} {r : Loop} (hl : w.heap[l]? = some (.loop r)) (h0 : w0.heap.size ≤ l) (hS : ¬ G.S l) (o : Obj) : R P w0 M Z G st a (w.putObj l o) := by
  refine hR.mild rfl rfl rfl (by rw [World.putObj_size]; exact Nat.le_refl _) (fun b _ hb => World.putObj_heap_other fun e => ?_) (fun b p hs => mild_put hl rfl hs)
  subst e
  rcases hb with h | h | ⟨h, _⟩
  · exact hS h
  · exact hR.notOwn hl h
  · omega
theorem R.rebaseC (hR : R P w0 M Z G st a w) (c : Nat) (hc : c ≤ st.gc) : R P w G.reg ⟨G, c, Z.defs, c⟩ G st a w :=
  ⟨hR.rebase.keep, hR.rebase.heap, hR.size, hR.tm, hR.gl, hR.defers, fun _ h => .inl h, Ext.refl _ _ _, hc, Nat.le_refl _, hR.tabs⟩
theorem R.weakC {c c' lim lim' : Nat} {ds : List Deferred} (hR : R P w0 M ⟨G', c, ds, lim⟩ G st a w) (hc : c' ≤ c) (hl : c' ≤ lim') : R P w0 M ⟨G', c', ds, lim'⟩ G st a w :=
  { hR with ext := ⟨hR.ext.S, hR.ext.cells, hR.ext.shape, fun id g ob hg => hR.ext.ob id g ob (Nat.lt_of_lt_of_le hg hc)⟩, lc := Nat.le_trans hc hR.lc, lc1 := hl }
structure Book (o : Obj) (l D : Nat) (Own : Nat → Prop) (G : Gh) (w : World) : Prop where
  lo : w.heap[l]? = some o
  de : w.heap[D]? = some (.deferred (some []))
  lS : ¬ G.S l
  dS : ¬ G.S D
  lR : ¬ G.reg l
  dR : ¬ G.reg D
  own : ∀ b, Own b → ¬ G.S b ∧ ¬ G.reg b ∧ b < w.heap.size
  ne : l ≠ D
  nl : ∀ b, Own b → b ≠ l ∧ b ≠ D
theorem Book.next {o : Obj} {l D : Nat} {Own : Nat → Prop} {Z' : Beg} (hB : Book o l D Own G w) (hR : R P w G.reg Z' G' st' a' w') (hZ : Z'.G = G) : Book o l D Own G' w' ∧ (∀ b, Own b → w'.heap[b]? = w.heap[b]?) := by
  have key : ∀ b, b < w.heap.size → ¬ G.S b → ¬ G.reg b → ¬ G'.S b ∧ ¬ G'.reg b ∧ w'.heap[b]? = w.heap[b]? := fun b h1 h2 h3 => by
    refine ⟨fun h => ?_, fun h => ?_, hR.keep.block b h1 h3⟩
    · rcases hR.fr b h with h | h | h
      · rw [hZ] at h; exact h2 h
      · omega
      · exact h3 h
    · rcases hR.reg h with h | h
      · omega
      · exact h3 h
  have hl := (Array.getElem?_eq_some_iff.1 hB.lo).1
  have hd := (Array.getElem?_eq_some_iff.1 hB.de).1
  have kl := key l hl hB.lS hB.lR
  have kd := key D hd hB.dS hB.dR
  refine ⟨⟨kl.2.2.trans hB.lo, kd.2.2.trans hB.de, kl.1, kd.1, kl.2.1, kd.2.1, fun b hb => ?_, hB.ne, hB.nl⟩, fun b hb => ?_⟩
  · obtain ⟨h1, h2, h3⟩ := hB.own b hb
    exact ⟨(key b h3 h1 h2).1, (key b h3 h1 h2).2.1, Nat.lt_of_lt_of_le h3 hR.keep.size⟩
  · obtain ⟨h1, h2, h3⟩ := hB.own b hb
    exact (key b h3 h1 h2).2.2
theorem Book.put {o o' : Obj} {l D : Nat} {Own : Nat → Prop} (hB : Book o l D Own G w) : Book o' l D Own G (w.putObj l o') ∧ (∀ b, Own b → (w.putObj l o').heap[b]? = w.heap[b]?) :=
  ⟨⟨World.putObj_heap_same (Array.getElem?_eq_some_iff.1 hB.lo).1, (World.putObj_heap_other hB.ne.symm).trans hB.de, hB.lS, hB.dS, hB.lR, hB.dR, fun b hb => by rw [World.putObj_size]; exact hB.own b hb, hB.ne, hB.nl⟩,
    fun b hb => World.putObj_heap_other (hB.nl b hb).1⟩
theorem Book.less {o : Obj} {l D : Nat} {Own : Nat → Prop} (hB : Book o l D Own G w) (hS : G'.S = G.S) (hE : Ext st.gc G w G' w) (hob : ∀ c, Ext c G w G' w) : Book o l D Own G' w := by
  have hr : ∀ b, G'.reg b → G.reg b := fun b ⟨id, g, h⟩ => ⟨id, g, (hob (g + 1)).ob id g _ (Nat.lt_succ_self _) h⟩
  exact ⟨hB.lo, hB.de, by rw [hS]; exact hB.lS, by rw [hS]; exact hB.dS, fun h => hB.lR (hr _ h), fun h => hB.dR (hr _ h), fun b hb => by rw [hS]; exact ⟨(hB.own b hb).1, fun h => (hB.own b hb).2.1 (hr _ h), (hB.own b hb).2.2⟩, hB.ne, hB.nl⟩
theorem Book.istep {o : Obj} {l D : Nat} {Own : Nat → Prop} (hB : Book o l D Own G w) (h : IStep Own w w') : Book o l D Own G w' :=
  ⟨(h.block l (Array.getElem?_eq_some_iff.1 hB.lo).1 fun e => (hB.nl l e).1 rfl).trans hB.lo, (h.block D (Array.getElem?_eq_some_iff.1 hB.de).1 fun e => (hB.nl D e).2 rfl).trans hB.de, hB.lS, hB.dS, hB.lR, hB.dR,
    fun b hb => ⟨(hB.own b hb).1, (hB.own b hb).2.1, Nat.lt_of_lt_of_le (hB.own b hb).2.2 h.size⟩, hB.ne, hB.nl⟩
theorem R.istep {o : Obj} {l D : Nat} {Own : Nat → Prop} (hR : R P w0 M Z G st a w) (hB : Book o l D Own G w) (hM : ∀ b, Own b → w0.heap.size ≤ b ∨ M b) (h : IStep Own w w') : R P w0 M Z G st a w' :=
  hR.mild h.os h.tape h.output h.size (fun b hb hh => h.block b hb fun ho => by
    rcases hh with hh | hh | ⟨h1, h2⟩
    · exact (hB.own b ho).1 hh
    · exact (hB.own b ho).2.1 hh
    · rcases hM b ho with h | h
      · omega
      · exact h2 h) h.shape
theorem R.caller {T : Nat → AV} {hp hp' : Hp} {gc gc' N : Nat} {tm : Nat → AV} (hR : R P w0 M Z G ⟨T, hp, gc, N⟩ a w) {ds : List Deferred} (h : R P w0 M ⟨Z.G, Z.c, ds, Z.lim⟩ G' ⟨tm, hp', gc', N⟩ a' w') (hE : Ext gc G w G' w') (hg : gc ≤ gc') : R P w0 M Z G' ⟨T, hp', gc', N⟩ a w' :=
  ⟨h.keep, h.heap, hR.size, fun t => Rd.mono hE _ _ (hR.gl t) (hR.tm t), fun t => gl_mono hg _ (hR.gl t), hR.defers, h.fr, h.ext, h.lc, hR.lc1, h.tabs⟩
omit [Tabs P] in
theorem enter_of {f : Nat} (hc : callable P f = true) (args : Array Value) (w : World) : (callFunc f args).run P w = .ok (.enter f args) w := by
  unfold callable at hc
  split at hc
  · rename_i fn hfn
    simp only [Bool.and_eq_true, bne_iff_ne] at hc
    have hb : ¬ fn.body = none := by cases h : fn.body <;> simp [h] at hc ⊢
    simp [callFunc, hfn, hb, hc.2]
  · simp at hc
omit [Tabs P] in
theorem roundIn_wide {n m l : Nat} {f : FuncId} {tmps : Array Value} {assign body : Code} {R' : Ending → World → Prop} (h : RoundIn Fence.wide n P l f tmps assign body w R') : RoundIn Fence.wide m P l f tmps assign body w R' :=
  ⟨h.1, fun c cs _ => h.2 c cs (room_wide _)⟩
omit [Tabs P] in
theorem callsIn_any {n m : Nat} {f : FuncId} {args : Array Value} {R' : Ending → World → Prop} (h : CallsIn Fence.wide n P f args w R') : CallsIn Fence.wide m P f args w R' :=
  ⟨h.1, fun cs _ => h.2 cs (room_wide _)⟩
def lrec (fn : FuncId) (tmps : Array Value) (p : Nat) (ca cb : Code) (D : Nat) (st : LoopState) (pe : Option Code) : Loop := { state := st, pending := pe, fn, tmps, params := #[p], assign := ca, body := cb, defers := D }
def jumpOf : Ex → Code
  | .exit i => .exit i
  | _ => .ret
def rJ (P : Program) [Tabs P] (w0 : World) (M : Nat → Prop) (Z : Beg) (a : Act) (r : LoopState → Option Code → Loop) (l D : Nat) (S0 Own : Nat → Prop) {α : Type} (T : Nat → AV) (F : α → Hp × Nat) (I : α → Nat → Prop) (N k : Nat) (W : World) : Prop :=
  ∃ c G, I c k ∧ (∀ b, S0 b → G.S b) ∧ R P w0 M Z G ⟨T, (F c).1, (F c).2, N⟩ a W ∧ Book (.loop (r .ready none)) l D Own G W
def rX (P : Program) [Tabs P] (w0 : World) (M : Nat → Prop) (Z : Beg) (a : Act) (r : LoopState → Option Code → Loop) (l D : Nat) (Own : Nat → Prop) (T : Nat → AV) (Q : Ex → ASt → Prop) (N : Nat) (W : World) : Prop :=
  ∃ ex G hp gc, ex ≠ .normal ∧ Q ex ⟨T, hp, gc, N⟩ ∧ R P w0 M Z G ⟨T, hp, gc, N⟩ a W ∧ Book (.loop (r .done (some (jumpOf ex)))) l D Own G W
set_option maxHeartbeats 1000000 in
theorem range_round {Q : Ex → ASt → Prop} {p N l D : Nat} {ca cb : SCode} {ca' cb' : Code} {S0 Own : Nat → Prop} {fn : FuncId} {xs : List Value} {α : Type} {T : Nat → AV} {F : α → Hp × Nat} {I : α → Nat → Prop}
    (hm : P.follows .mixedOrders = true) (hca : slimC P N ca' = ca) (hcb : slimC P N cb' = cb) (hpa : plainC ca' = true) (hpb : plainC cb' = true) (hpN : p < N) (h0 : w0.heap.size ≤ l)
    (round : ∀ (L : Lim) c k x, I c k → xs[k]? = some x → @SWp P _ L ca (onlyN fun s => @SWp P _ L cb (rq Q I T F (k + 1)) s) ⟨upd T p (.sc x), (F c).1, (F c).2, N⟩)
    {k : Nat} {x : Value} {W : World} (hJ : rJ P w0 M Z a (lrec fn a.tmps p ca' cb' D) l D S0 Own T F I N k W) (hx : xs[k]? = some x) :
    YieldAt Fence.wide 0 P l #[x] W fun e w' => RStep S0 Own W w' ∧ ((e = .returned (.bool true) ∧ rJ P w0 M Z a (lrec fn a.tmps p ca' cb' D) l D S0 Own T F I N (k + 1) w') ∨ (e = .returned (.bool false) ∧ rX P w0 M Z a (lrec fn a.tmps p ca' cb' D) l D Own T Q N w')) := by
  obtain ⟨c, G, hI, hSS, hR, hB⟩ := hJ
  have hy := run_yield (P := P) (args := #[x]) hB.lo rfl
  have htm : ((lrec fn a.tmps p ca' cb' D .ready none).params.zip #[x]).foldl (fun tmps (t, a) => tmps.setIfInBounds t a) (lrec fn a.tmps p ca' cb' D .ready none).tmps = a.tmps.setIfInBounds p x := by simp [lrec]
  rw [htm] at hy
  refine ⟨fn, _, ca', cb', hy, roundIn_of_wpIn (F := Fence.wide) trivial ?_⟩
  have hsz : p < a.tmps.size := by rw [hR.size]; exact hpN
  have hRr : R P W G.reg ⟨G, (F c).2, [], (F c).2⟩ G ⟨upd T p (.sc x), (F c).1, (F c).2, N⟩ { tmps := a.tmps.setIfInBounds p x, defers := [] } W := by
    have h := hR.rebaseC (F c).2 (Nat.le_refl _)
    refine ⟨h.keep, h.heap, by rw [Array.size_setIfInBounds]; exact hR.size, fun t => ?_, fun t => ?_, rfl, h.fr, h.ext, h.lc, h.lc1, h.tabs⟩
    · show Rd G W (upd T p (.sc x) t) _
      rw [upd_at]
      by_cases e : t = p
      · subst e
        rw [if_pos rfl, Array.getD_eq_getD_getElem?, Array.getElem?_setIfInBounds_self_of_lt hsz]
        simp [Rd]
      · rw [if_neg e, Array.getD_eq_getD_getElem?, Array.getElem?_setIfInBounds_ne (Ne.symm e), ← Array.getD_eq_getD_getElem?]
        exact hR.tm t
    · show (upd T p (.sc x) t).gl _
      rw [upd_at]
      by_cases e : t = p
      · rw [if_pos e]; simp [AV.gl]
      · rw [if_neg e]; exact hR.gl t
  have A := round ⟨(F c).2⟩ c k x hI hx hm ca' hca W G.reg _ G _ W rfl hRr (some l) 0 (.inr hpa)
  refine wpIn_mono (show ca'.wpIn (Fence.wide.inRound l) 0 P _ { tmps := a.tmps.setIfInBounds p x, defers := [] } W from A) ?_
  rintro e a1 w1 ⟨ex, s1, G1, rfl, h1, hN1, ds1, -, -, hR1⟩
  cases ex with
  | exit i => exact h1.elim
  | ret => exact h1.elim
  | normal =>
    obtain ⟨hB1, hO1⟩ := hB.next hR1 rfl
    refine ⟨_, run_beginRound hB1.lo rfl, ?_⟩
    obtain ⟨hB2, hO2⟩ := hB1.put (o' := .loop { lrec fn a.tmps p ca' cb' D .ready none with state := .busy })
    have hU1 : R P w0 M ⟨Z.G, Z.c, ds1 ++ [], Z.lim⟩ G1 s1 a1 w1 := hR.unbaseD (hR1.weakC hR.lc hR.lc1)
    have hU2 := hU1.putLoop hB1.lo h0 hB1.lS (.loop { lrec fn a.tmps p ca' cb' D .ready none with state := .busy })
    have hRb := hU2.rebaseC (F c).2 hR1.lc
    have h1' : @SWp P _ ⟨(F c).2⟩ cb (rq Q I T F (k + 1)) s1 := h1
    have B := h1' hm cb' (by rw [hN1]; exact hcb) _ G1.reg _ G1 a1 _ rfl hRb (some l) 0 (.inr hpb)
    refine wpIn_mono (show cb'.wpIn (Fence.wide.inRound l) 0 P _ a1 _ from B) ?_
    rintro e a3 w3 ⟨ex, s3, G3, rfl, h3, hN3, ds3, -, -, hR3⟩
    obtain ⟨hB3, hO3⟩ := hB2.next hR3 rfl
    have hU3 := hU2.unbaseD (hR3.weakC (c' := Z.c) (lim' := Z.lim) hR.lc hR.lc1)
    have hE : Ext (F c).2 G W G3 w3 := Ext.trans (Nat.le_refl _) (Ext.trans (Nat.le_refl _) hR1.ext ⟨fun _ h => h, fun b hb => World.putObj_heap_other (r := l) (fun e => by subst e; exact hB1.lS hb), fun b p h => mild_put hB1.lo rfl h, fun _ _ _ _ h => h⟩) hR3.ext
    have hN : s3.N = N := hN3.trans hN1
    obtain ⟨tm3, hp3, gc3, N3⟩ := s3
    simp only at hN
    subst hN
    have hC := hR.caller hU3 hE hR3.lc
    have hst : ∀ o, RStep S0 Own W (w3.putObj l o) := fun o => by
      obtain ⟨hB5, hO5⟩ := hB3.put (o' := o)
      refine ⟨hR3.keep.os.trans hR1.keep.os, hR3.keep.tape.trans hR1.keep.tape, hR3.keep.output.trans hR1.keep.output, ?_, fun b hb hh => ?_, fun b p h => mild_put hB3.lo rfl (hE.shape b p h)⟩
      · have e1 := hR1.keep.size
        have e2 := hR3.keep.size
        rw [World.putObj_size] at e2 ⊢
        omega
      · rcases hh with hh | hh
        · exact (World.putObj_heap_other (r := l) fun e => by subst e; exact hB3.lS (hE.S _ (hSS _ hh))).trans (hE.cells b (hSS b hh))
        · exact (hO5 b hh).trans ((hO3 b hh).trans ((hO2 b hh).trans (hO1 b hh)))
    cases ex with
    | normal =>
      obtain ⟨c', hI', hle⟩ := h3
      obtain ⟨G4, ⟨hS4, -, hE4⟩, hR4⟩ := hC.leF hle
      have hB4 := hB3.less (st := ⟨T, hp3, gc3, N3⟩) hS4 (hE4 _) hE4
      obtain ⟨hB5, hO5⟩ := hB4.put (o' := .loop (lrec fn a.tmps p ca' cb' D .ready none))
      exact ⟨_, _, run_endRound none hB3.lo, hst _, .inl ⟨rfl, c', G4, hI', fun b hb => by rw [hS4]; exact hE.S b (hSS b hb), hR4.putLoop hB4.lo h0 hB4.lS _, hB5⟩⟩
    | exit i =>
      obtain ⟨hB5, -⟩ := hB3.put (o' := .loop (lrec fn a.tmps p ca' cb' D .done (some (.exit i))))
      exact ⟨_, _, run_endRound (some (.exit i)) hB3.lo, hst _, .inr ⟨rfl, .exit i, G3, hp3, gc3, by simp, h3, hC.putLoop hB3.lo h0 hB3.lS _, hB5⟩⟩
    | ret =>
      obtain ⟨hB5, -⟩ := hB3.put (o' := .loop (lrec fn a.tmps p ca' cb' D .done (some .ret)))
      exact ⟨_, _, run_endRound (some .ret) hB3.lo, hst _, .inr ⟨rfl, .ret, G3, hp3, gc3, by simp, h3, hC.putLoop hB3.lo h0 hB3.lS _, hB5⟩⟩
set_option maxHeartbeats 1000000 in
theorem SWp.range [Lim] {Q : Ex → ASt → Prop} {f : Operand} {p : Nat} {ca cb : SCode} {gf : Nat} {caps : List AV} {hin : List (Nat × Nat × List AV)} {xs : List Value} {α : Type} (T : Nat → AV) (F : α → Hp × Nat) (I : α → Nat → Prop) (c0 : α)
    (hf : ev P st f = .clo gf caps) (hcal : callable P gf = true) (hhin : ∀ q ∈ hin, st.hp q.1 = some (q.2.1, .row false q.2.2)) (it : ItCon P gf caps hin xs) (hpN : p < st.N)
    (h0 : I c0 0) (hst : Le st ⟨T, (F c0).1, (F c0).2, st.N⟩) (hno : ∀ q ∈ hin, (F c0).1 q.1 = none)
    (round : ∀ (L : Lim) c k x, I c k → xs[k]? = some x → @SWp P _ L ca (onlyN fun s => @SWp P _ L cb (rq Q I T F (k + 1)) s) ⟨upd T p (.sc x), (F c).1, (F c).2, st.N⟩)
    (done : ∀ c, I c xs.length → Q .normal ⟨T, (F c).1, (F c).2, st.N⟩) : SWp P (.rng true f [p] ca cb) Q st := by
  intro hm code hc w0 M Z G a w hZ hR
  cases code with
  | rangeFunc g ps ca' cb' =>
    simp only [slimC, SCode.rng.injEq, Bool.and_eq_true] at hc
    obtain ⟨⟨hpa, hpb⟩, rfl, hps, hca, hcb⟩ := hc
    obtain rfl : ps = #[p] := Array.toList_inj.1 hps
    intro rd n hp0
    obtain rfl : rd = none := hp0.resolve_right (by simp [plainC])
    have hv := hR.ev g
    rw [hf] at hv
    simp only [Rd] at hv
    obtain ⟨lb, hlb, hcaps⟩ := hv
    have hgl := hR.evgl g
    rw [hf] at hgl
    have hown : ∀ q ∈ hin, ∃ b vs, G.ob q.1 q.2.1 = some (some b) ∧ ¬ G.S b ∧ (w0.heap.size ≤ b ∨ M b) ∧ b < w.heap.size ∧ RdL G w q.2.2 vs ∧ Blk w.heap[b]? vs ∧ q.2.1 < st.gc ∧ AV.gl.glL st.gc q.2.2 := fun q hq => by
      have hh := hhin q hq
      obtain ⟨ob, h1, h2, h3, h4⟩ := hR.heap.row _ _ _ _ hh
      obtain ⟨g1, g2⟩ := hR.heap.gl _ _ _ _ hh
      cases ob with
      | none => exact absurd (h2.2 rfl) (by simp)
      | some b =>
        obtain ⟨k1, k2, vs, k4, k3⟩ := h4 b rfl
        exact ⟨b, vs, h1, k1, k2, k3.lt, k4, k3, g1, g2⟩
    obtain ⟨Own, hOwn⟩ : ∃ Own : Nat → Prop, Own = fun b => ∃ q ∈ hin, G.ob q.1 q.2.1 = some (some b) := ⟨_, rfl⟩
    have hownB : ∀ b, Own b → ¬ G.S b ∧ (w0.heap.size ≤ b ∨ M b) ∧ b < w.heap.size := fun b hb => by
      rw [hOwn] at hb
      obtain ⟨q, hq, hb⟩ := hb
      obtain ⟨b', vs, h1, h2, h3, h4, _⟩ := hown q hq
      rw [hb] at h1
      cases h1
      exact ⟨h2, h3, h4⟩
    obtain ⟨G0, ⟨hS0, hn0, hE0⟩, hR0⟩ := hR.leF hst
    have hreg0 : ∀ b, Own b → ¬ G0.reg b := fun b hb => by
      rw [hOwn] at hb
      obtain ⟨q, hq, hb⟩ := hb
      rintro ⟨id, m, h⟩
      have h' := (hE0 (m + 1)).ob id m _ (Nat.lt_succ_self _) h
      have e := hR.heap.inj _ _ _ _ _ h' hb
      rw [e, hn0 q.1 (hno q hq)] at h
      cases h
    show (Code.rangeFunc g #[p] ca' cb').wpIn Fence.wide n P (PostR P false w0 M Z st.N Q) a w
    refine wpIn_rangeFunc ?_
    intro fn hfn
    obtain ⟨D, hD⟩ : ∃ D, D = w.heap.size := ⟨_, rfl⟩
    obtain ⟨W1, hW1⟩ : ∃ W1, W1 = (w.alloc (.deferred (some []))).alloc (.loop (lrec fn a.tmps p ca' cb' D .ready none)) := ⟨_, rfl⟩
    have hsz1 : W1.heap.size = D + 2 := by rw [hW1, World.size_alloc, World.size_alloc, hD]
    have hsame : ∀ b, b < w.heap.size → W1.heap[b]? = w.heap[b]? := fun b hb => by
      rw [hW1]
      exact (Go.RowKit.Below.heap_alloc _ _ _ (by rw [World.size_alloc]; omega)).trans (Go.RowKit.Below.heap_alloc _ _ _ hb)
    have hL1 : W1.heap[D + 1]? = some (.loop (lrec fn a.tmps p ca' cb' D .ready none)) := by
      rw [hW1]; have := World.alloc_heap_new (w.alloc (.deferred (some []))) (.loop (lrec fn a.tmps p ca' cb' D .ready none)); rwa [World.size_alloc, ← hD] at this
    have hK1 : W1.heap[D]? = some (.deferred (some [])) := by
      rw [hW1, hD]; exact (Go.RowKit.Below.heap_alloc _ _ _ (by rw [World.size_alloc]; omega)).trans (World.alloc_heap_new w _)
    have hsh1 : ∀ b q, w.shape? b = some q → W1.shape? b = some q := fun b q h => by
      have hb : b < w.heap.size := by
        unfold World.shape? at h
        cases hh : w.heap[b]? with
        | none => rw [hh] at h; cases h
        | some o => exact (Array.getElem?_eq_some_iff.1 hh).1
      unfold World.shape? at h ⊢
      rw [hsame b hb]
      exact h
    have hos : W1.os = w.os ∧ W1.tape = w.tape ∧ W1.output = w.output := by rw [hW1]; exact ⟨rfl, rfl, rfl⟩
    have hR1 : R P w0 M Z G0 ⟨T, (F c0).1, (F c0).2, st.N⟩ a W1 := hR0.mild hos.1 hos.2.1 hos.2.2 (by omega) (fun b hb _ => hsame b hb) hsh1
    have hEW : Ext st.gc G w G W1 := ⟨fun _ h => h, fun b hb => hsame b (hR.heap.lt b hb), hsh1, fun _ _ _ _ h => h⟩
    have hlow : ∀ b, w.heap.size ≤ b → ¬ G0.S b ∧ ∀ r, W1.heap[b]? = some r → r.isCells = false → (∀ es ck, r ≠ .map es ck) → ¬ G0.reg b := fun b hb => by
      refine ⟨fun h => ?_, fun r hr h1 h2 => ?_⟩
      · have := hR0.heap.lt b h; omega
      · rintro ⟨id, m, h⟩
        obtain ⟨⟨nl, cells⟩, ho⟩ := hR0.heap.live _ _ _ h
        obtain ⟨ob, k1, _, _, k4⟩ := hR0.heap.row _ _ _ _ ho
        rw [h] at k1; cases k1
        have := (k4 b rfl).2.2
        obtain ⟨vs, _, hb'⟩ := this
        have := hb'.lt
        omega
    have hB1 : Book (.loop (lrec fn a.tmps p ca' cb' D .ready none)) (D + 1) D Own G0 W1 :=
      ⟨hL1, hK1, (hlow (D + 1) (by omega)).1, (hlow D (by omega)).1, (hlow (D + 1) (by omega)).2 _ hL1 rfl (by simp), (hlow D (by omega)).2 _ hK1 rfl (by simp),
        fun b hb => ⟨by rw [hS0]; exact (hownB b hb).1, hreg0 b hb, by have := (hownB b hb).2.2; omega⟩, by omega, fun b hb => by have := (hownB b hb).2.2; omega⟩
    have hok := it G W1 lb (hR.tabs.mono (fun _ h => h) (fun b hb => hsame b (hR.heap.lt b hb))) (fun b hb => by have := hR.heap.lt b hb; omega) (RdL.mono hEW _ _ (by simpa only [AV.gl] using hgl) hcaps)
      (fun q hq => by
        obtain ⟨b, vs, h1, h2, _, h4, h5, h6, h7, h8⟩ := hown q hq
        exact ⟨b, vs, h1, h2, by omega, RdL.mono hEW _ _ h8 h5, by rw [hsame b h4]; exact h6⟩) hR.heap.inj
    rw [← hOwn] at hok
    have h0l : w0.heap.size ≤ D + 1 := by have := hR.keep.size; omega
    have hit := hok (D + 1) (rJ P w0 M Z a (lrec fn a.tmps p ca' cb' D) (D + 1) D G.S Own T F I st.N) (rX P w0 M Z a (lrec fn a.tmps p ca' cb' D) (D + 1) D Own T Q st.N)
      (fun k w w' ⟨c, G, hI, hSS, hR, hB⟩ hs => ⟨c, G, hI, hSS, hR.istep hB (fun b hb => (hownB b hb).2.1) hs, hB.istep hs⟩)
      (fun w w' ⟨ex, G, hp, gc, hne, hq, hR, hB⟩ hs => ⟨ex, G, hp, gc, hne, hq, hR.istep hB (fun b hb => (hownB b hb).2.1) hs, hB.istep hs⟩)
      (fun k x w hJ hx => range_round hm hca hcb hpa hpb hpN h0l round hJ hx) ⟨c0, G0, h0, fun b hb => by rw [hS0]; exact hb, hR1, hB1⟩
    have hit2 := callsIn_any (m := n - 1) hit
    refine ⟨D + 1, [{ target := .collected D, args := #[] }], W1, { target := .fn (.func gf) lb.toArray, args := #[.func (.yield (D + 1)) #[] #[]] }, W1, gf, #[.func (.yield (D + 1)) #[] #[]] ++ lb.toArray, W1, ?_, ?_, fun _ _ => trivial, ?_, (fun h => by cases h), ?_⟩
    · rw [hW1, hD]; exact run_enterLoop_outer _ _ _ _ _
    · simp only [resolve, hlb]
      simp [go_sem, Deferred.ofValue]
    · simp [invoke, go_sem, enter_of hcal]
    · refine CallsIn.mono hit2 ?_
      rintro e W2 ⟨⟨v, rfl⟩, hJ | hX⟩
      · obtain ⟨c, G2, hI, -, hR2, hB2⟩ := hJ
        refine ⟨none, _, run_endLoop hB2.lo (by simp [lrec]), ?_⟩
        obtain ⟨hB3, -⟩ := hB2.put (o' := .loop { lrec fn a.tmps p ca' cb' D .ready none with state := .exhausted })
        have hR3 := hR2.putLoop hB2.lo h0l hB2.lS (.loop { lrec fn a.tmps p ca' cb' D .ready none with state := .exhausted })
        exact ⟨.normal, _, G2, rfl, done c hI, rfl, [{ target := .collected D, args := #[] }], (fun h => by cases h), ⟨by simp, fun d hd => ⟨D, by simpa using hd, by have := hR.keep.size; omega, hB3.dS, hB3.de⟩⟩, { hR3 with defers := by rw [hR3.defers]; try rfl }⟩
      · obtain ⟨ex, G2, hp, gc, hne, hq, hR2, hB2⟩ := hX
        refine ⟨some (jumpOf ex), _, run_endLoop hB2.lo (by simp [lrec]), ?_⟩
        obtain ⟨hB3, -⟩ := hB2.put (o' := .loop { lrec fn a.tmps p ca' cb' D .done (some (jumpOf ex)) with state := .exhausted })
        have hR3 := hR2.putLoop hB2.lo h0l hB2.lS (.loop { lrec fn a.tmps p ca' cb' D .done (some (jumpOf ex)) with state := .exhausted })
        have hfin : PostR P false w0 M Z st.N Q ex.out { a with defers := { target := .collected D, args := #[] } :: a.defers } (W2.putObj (D + 1) (.loop { lrec fn a.tmps p ca' cb' D .done (some (jumpOf ex)) with state := .exhausted })) :=
          ⟨ex, _, G2, rfl, hq, rfl, [{ target := .collected D, args := #[] }], (fun h => by cases h), ⟨by simp, fun d hd => ⟨D, by simpa using hd, by have := hR.keep.size; omega, hB3.dS, hB3.de⟩⟩, { hR3 with defers := by rw [hR3.defers]; try rfl }⟩
        cases ex with
        | normal => exact absurd rfl hne
        | exit i => exact wpIn_exit hfin
        | ret => exact wpIn_ret hfin
  | region id ops draw => simp only [slimC] at hc; (repeat' split at hc) <;> simp at hc
  | _ => simp [slimC] at hc
end
end Go.Proofs.YtbmmdkbinlnogaaDoor.Aw
