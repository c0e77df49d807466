/- Parts of the proofs of Eo. -/
import Derived.Test.YtbmmdkbinlnogaaDoorQEoAU
import Derived.RangeFuncLeaves
import Derived.RangeFuncFrom
namespace Go.Proofs.YtbmmdkbinlnogaaDoor.Aw
open Go
set_option linter.unusedSimpArgs false
set_option linter.unusedVariables false
inductive SCode where
  | bad
  | skip
  | reg (ops : List SOper)
  | reg3 (a : List SOper) (ch : List (Option Nat × Operand × Nat)) (b : List SOper)
  | reg2 (ops : List SOper)
  | reg4 (a b : List SOper) (k : Option Nat × Operand × Nat) (c : List SOper)
  | seq (a b : SCode)
  | cond (c : Operand) (a b : SCode)
  | block (id : Nat) (b : SCode)
  | loop (b : SCode)
  | exit (id : Nat)
  | ret
  | rng (ok : Bool) (f : Operand) (ps : List Nat) (a b : SCode)
  deriving Inhabited
def slimC (P : Program) (N : Nat) : Code → SCode
  | .skip => .skip
  | .region _ ops draw =>
    match ops.toList.mapM (slimO P N false ops), ops.toList.mapM (slimO P N true ops) with
    | some sl, some sl' => if draw then (if drawOk ops sl then .reg sl else match findLoose ops sl with
      | some h => .reg3 (sl.take (h + 1)) (chks ops sl h) (sl.drop (h + 1))
      | none => match lates ops sl sl' with
        | (h, u, k) :: _ => .reg4 ((mixL ops sl sl' h).take h) (((mixL ops sl sl' h).drop h).take (u + 1 - h)) k ((mixL ops sl sl' h).drop (u + 1))
        | [] => if drawOk ops (mixS ops sl sl') then .reg (mixS ops sl sl') else if drawOk ops sl' then .reg sl' else if freshOk ops sl then .reg (slim2 sl) else if twoOk ops sl then .reg2 sl else .bad) else .reg sl
    | _, _ => .bad
  | .seq a b => .seq (slimC P N a) (slimC P N b)
  | .cond c a b => .cond c (slimC P N a) (slimC P N b)
  | .block id b => .block id (slimC P N b)
  | .loop b => .loop (slimC P N b)
  | .exit id => .exit id
  | .ret => .ret
  | .rangeFunc f ps a b => .rng (plainC a && plainC b) f ps.toList (slimC P N a) (slimC P N b)
  | _ => .bad
inductive Ex where
  | normal
  | exit (id : Nat)
  | ret
def Ex.out : Ex → Exit
  | .normal => .normal
  | .exit id => .exit id
  | .ret => .ret
def Marks (n : Nat) (S : Nat → Prop) (w : World) (ds : List Deferred) : Prop := ds.Nodup ∧ ∀ d ∈ ds, ∃ D, d = { target := .collected D, args := #[] } ∧ n ≤ D ∧ ¬ S D ∧ w.heap[D]? = some (.deferred (some []))
def RM (P : Program) [Tabs P] (pl : Bool) (w0 : World) (M : Nat → Prop) (Z : Beg) (G : Gh) (st : ASt) (a : Act) (w : World) : Prop :=
  ∃ ds, (pl = true → ds = []) ∧ Marks w0.heap.size G.S w ds ∧ R P w0 M ⟨Z.G, Z.c, ds ++ Z.defs, Z.lim⟩ G st a w
theorem RM.of {P : Program} [Tabs P] {pl : Bool} {w0 : World} {M : Nat → Prop} {Z : Beg} {G : Gh} {st : ASt} {a : Act} {w : World} (h : R P w0 M Z G st a w) : RM P pl w0 M Z G st a w := ⟨[], fun _ => rfl, ⟨List.nodup_nil, fun _ h => by cases h⟩, h⟩
theorem RM.weak {P : Program} [Tabs P] {pl pl' : Bool} {w0 : World} {M : Nat → Prop} {Z : Beg} {G : Gh} {st : ASt} {a : Act} {w : World} (h : RM P pl w0 M Z G st a w) (hp : pl' = true → pl = true) : RM P pl' w0 M Z G st a w := by
  obtain ⟨ds, h1, h2⟩ := h
  exact ⟨ds, fun e => h1 (hp e), h2⟩
abbrev PostR (P : Program) [Tabs P] (pl : Bool) (w0 : World) (M : Nat → Prop) (Z : Beg) (N : Nat) (Q : Ex → ASt → Prop) : Exit → Act → World → Prop :=
  fun e a' w' => ∃ ex st' G', e = Ex.out ex ∧ Q ex st' ∧ st'.N = N ∧ RM P pl w0 M Z G' st' a' w'
theorem noOut {P : Program} [Tabs P] {pl : Bool} {w0 : World} {M : Nat → Prop} {Z : Beg} {N : Nat} {Q : Ex → ASt → Prop} : ¬ LetsOut (PostR P pl w0 M Z N Q) := by
  rintro ⟨a, w, ex, _, _, h, _⟩
  cases ex <;> cases h
class Lim where
  lim : Nat
instance (priority := low) lim1 : Lim := ⟨1⟩
def SWp (P : Program) [Tabs P] [Lim] (c : SCode) (Q : Ex → ASt → Prop) (st : ASt) : Prop :=
  P.follows .mixedOrders = true → ∀ code, slimC P st.N code = c → ∀ (w0 : World) (M : Nat → Prop) (Z : Beg) (G : Gh) (a : Act) (w : World), Z.lim = Lim.lim → R P w0 M Z G st a w →
    wpR P code (PostR P (plainC code) w0 M Z st.N Q) a w
section
variable {P : Program} [Tabs P] {Q Q' : Ex → ASt → Prop} {st st' : ASt}
theorem SWp.mono [Lim] {c : SCode} (h : SWp P c Q st) (hq : ∀ e s, s.N = st.N → Q e s → Q' e s) : SWp P c Q' st := fun hm code hc w0 M Z G a w hZ hR =>
  wpR_mono (h hm code hc w0 M Z G a w hZ hR) fun _ _ _ ⟨ex, st', G', h1, h2, h3, h4⟩ => ⟨ex, st', G', h1, hq _ _ h3 h2, h3, h4⟩
theorem AOps.N {K : ASt → Prop} : ∀ {sl : List SOper} {st : ASt}, AOps P sl K st → AOps P sl (fun s => K s ∧ s.N = st.N) st
  | [], _, h => ⟨h, rfl⟩
  | o :: sl, st, h => by
    rw [AOps_cons] at h ⊢
    refine h.N.mono fun s hs => ?_
    have := hs.1.N
    rw [hs.2] at this
    exact this
theorem SWp.reg [Lim] {sl : List SOper} (h : AOps P sl (Q .normal) st) : SWp P (.reg sl) Q st := by
  intro hm code hc w0 M Z G a w hZ hR
  have h := h.N
  have hK : ∀ (s : ASt) (G : Gh) (a : Act) (w : World), (Q .normal s ∧ s.N = st.N) → R P w0 M Z G s a w → PostR P (plainC code) w0 M Z st.N Q Exit.normal a w :=
    fun s G a w hs hR => ⟨.normal, s, G, rfl, hs.1, hs.2, .of hR⟩
  cases code with
  | region id ops draw =>
    simp only [slimC] at hc
    split at hc
    · rename_i sl' sl'' hsl hsl'
      cases draw with
      | true =>
        simp only [if_true] at hc
        split at hc
        · rename_i hok
          simp only [SCode.reg.injEq] at hc
          subst hc
          exact draw_sound hm noOut (fits_one hsl) hok hK rfl hR h
        · split at hc
          · simp at hc
          split at hc
          · simp at hc
          split at hc
          · rename_i hok
            simp only [SCode.reg.injEq] at hc
            subst hc
            exact draw_sound hm noOut (fits_mix hsl hsl') hok hK rfl hR h
          · split at hc
            · rename_i hok
              simp only [SCode.reg.injEq] at hc
              subst hc
              exact draw_sound hm noOut (fits_one hsl') hok hK rfl hR h
            · split at hc
              · rename_i hok
                simp only [SCode.reg.injEq] at hc
                subst hc
                exact draw2_sound hm noOut hsl hok hK rfl hR h
              · split at hc <;> simp at hc
      | false =>
        simp only [Bool.false_eq_true, if_false, SCode.reg.injEq] at hc
        subst hc
        exact wpR_region noOut (ops_sound hsl hK rfl hR h)
    · simp at hc
  | _ => simp [slimC] at hc
theorem AOps.mono {K K' : ASt → Prop} (hk : ∀ s, K s → K' s) : ∀ {sl : List SOper} {st : ASt}, AOps P sl K st → AOps P sl K' st
  | [], _, h => hk _ h
  | o :: sl, st, h => by
    rw [AOps_cons] at h ⊢
    exact GStep.mono (fun s hs => AOps.mono hk hs) h
theorem SWp.reg3 [Lim] {x y : List SOper} {ch : List (Option Nat × Operand × Nat)} (h : AOps P x (fun s => Chks P ch s ∧ AOps P y (Q .normal) s) st) : SWp P (.reg3 x ch y) Q st := by
  intro hm code hc w0 M Z G a w hZ hR
  have h := AOps.mono (K' := fun s => Chks P ch s ∧ AOps P y (fun s => Q .normal s ∧ s.N = st.N) s) (fun s hs => ⟨hs.1.1, by have := hs.1.2.N; rw [hs.2] at this; exact this⟩) h.N
  have hK : ∀ (s : ASt) (G : Gh) (a : Act) (w : World), (Q .normal s ∧ s.N = st.N) → R P w0 M Z G s a w → PostR P (plainC code) w0 M Z st.N Q Exit.normal a w :=
    fun s G a w hs hR => ⟨.normal, s, G, rfl, hs.1, hs.2, .of hR⟩
  cases code with
  | region id ops draw =>
    simp only [slimC] at hc
    split at hc
    · rename_i sl' sl'' hsl hsl'
      cases draw with
      | true =>
        simp only [if_true] at hc
        split at hc
        · simp at hc
        · split at hc
          · rename_i k hk
            simp only [SCode.reg3.injEq] at hc
            obtain ⟨rfl, rfl, rfl⟩ := hc
            have hok := List.find?_some hk
            have hlt := List.mem_range.1 (List.mem_of_find?_eq_some hk)
            exact draw3_sound hm noOut hsl hok hlt hK rfl hR h
          · (repeat' split at hc) <;> simp at hc
      | false => simp at hc
    · simp at hc
  | _ => simp [slimC] at hc
theorem SWp.reg4 [Lim] {x y z : List SOper} {sz : Option Nat} {o : Operand} {d : Nat} (h : AOps P x (fun s0 => AOps P y (fun s => ChkH P sz o d s0.hp s ∧ AOps P z (Q .normal) s) s0) st) : SWp P (.reg4 x y (sz, o, d) z) Q st := by
  intro hm code hc w0 M Z G a w hZ hR
  have h := AOps.mono (K' := fun s0 => AOps P y (fun s => ChkH P sz o d s0.hp s ∧ AOps P z (fun s => Q .normal s ∧ s.N = st.N) s) s0) (fun s0 h0 => AOps.mono (fun s hs => ⟨hs.1.1, by
    have := hs.1.2.N
    rw [hs.2, h0.2] at this
    exact this⟩) h0.1.N) h.N
  have hK : ∀ (s : ASt) (G : Gh) (a : Act) (w : World), (Q .normal s ∧ s.N = st.N) → R P w0 M Z G s a w → PostR P (plainC code) w0 M Z st.N Q Exit.normal a w :=
    fun s G a w hs hR => ⟨.normal, s, G, rfl, hs.1, hs.2, .of hR⟩
  cases code with
  | region id ops draw =>
    simp only [slimC] at hc
    split at hc
    · rename_i sl' sl'' hsl hsl'
      cases draw with
      | true =>
        simp only [if_true] at hc
        split at hc
        · simp at hc
        · split at hc
          · simp at hc
          · split at hc
            · rename_i hk
              simp only [SCode.reg4.injEq] at hc
              obtain ⟨rfl, rfl, rfl, rfl⟩ := hc
              obtain ⟨hok, hu⟩ := lates_spec hk
              exact draw4_sound hm noOut (fits_mixL hsl hsl') hok hu hK rfl hR h
            · (repeat' split at hc) <;> simp at hc
      | false => simp at hc
    · simp at hc
  | _ => simp [slimC] at hc
theorem SWp.reg2 [Lim] {x y : SOper} {r : List SOper} (h : AOps P (x :: y :: r) (Q .normal) st) (h' : AOps P (y :: x :: r) (Q .normal) st) : SWp P (.reg2 (x :: y :: r)) Q st := by
  intro hm code hc w0 M Z G a w hZ hR
  have h := h.N
  have h' := h'.N
  have hK : ∀ (s : ASt) (G : Gh) (a : Act) (w : World), (Q .normal s ∧ s.N = st.N) → R P w0 M Z G s a w → PostR P (plainC code) w0 M Z st.N Q Exit.normal a w :=
    fun s G a w hs hR => ⟨.normal, s, G, rfl, hs.1, hs.2, .of hR⟩
  cases code with
  | region id ops draw =>
    simp only [slimC] at hc
    split at hc
    · rename_i sl' sl'' hsl hsl'
      cases draw with
      | true =>
        simp only [if_true] at hc
        split at hc
        · simp at hc
        · split at hc
          · simp at hc
          split at hc
          · simp at hc
          split at hc
          · simp at hc
          · split at hc
            · simp at hc
            · split at hc
              · simp at hc
              · split at hc
                · rename_i hok
                  simp only [SCode.reg2.injEq] at hc
                  subst hc
                  exact drawT_sound hm noOut hsl hok hK rfl hR h h'
                · simp at hc
      | false => simp at hc
    · simp at hc
  | _ => simp [slimC] at hc
theorem R.unbaseD {w0 : World} {M : Nat → Prop} {Z : Beg} {G G' : Gh} {a a' : Act} {w w' : World} {ds : List Deferred} (hR : R P w0 M Z G st a w) (h : R P w G.reg ⟨G, Z.c, ds, Z.lim⟩ G' st' a' w') : R P w0 M ⟨Z.G, Z.c, ds, Z.lim⟩ G' st' a' w' := by
  have hM : ∀ b, (w.heap.size ≤ b ∨ G.reg b) → (w0.heap.size ≤ b ∨ M b) := fun b hb => hb.elim (fun h => .inl (Nat.le_trans hR.keep.size h)) hR.reg
  refine ⟨hR.keep.trans (h.keep.mono hR.keep.size fun b hb hm => (hR.reg hm).elim (fun h => absurd h (by omega)) id), ⟨h.heap.lt, h.heap.live, h.heap.gl, h.heap.inj, fun id g nl cells hi => ?_⟩, h.size, h.tm, h.gl, h.defers, fun b hb => ?_, hR.ext.trans (Nat.le_refl _) h.ext, h.lc, hR.lc1, h.tabs⟩
  · obtain ⟨ob, h1, h2, h3, h4⟩ := h.heap.row id g nl cells hi
    refine ⟨ob, h1, h2, h3, fun b hb => ?_⟩
    obtain ⟨k1, k2, k3⟩ := h4 b hb
    exact ⟨k1, hM b k2, k3⟩
  · rcases h.fr b hb with h | h
    · exact hR.fr b h
    · exact .inr (hM b h)
theorem R.notReg {w0 : World} {M : Nat → Prop} {Z : Beg} {G : Gh} {a : Act} {w : World} (hR : R P w0 M Z G st a w) {D : Nat} {x : Option (List Deferred)} (hD : w.heap[D]? = some (.deferred x)) : ¬ G.reg D := by
  rintro ⟨id, g, h⟩
  obtain ⟨⟨nl, cells⟩, ho⟩ := hR.heap.live _ _ _ h
  obtain ⟨ob, k1, _, _, k4⟩ := hR.heap.row _ _ _ _ ho
  rw [h] at k1; cases k1
  obtain ⟨_, _, vs, _, hb⟩ := k4 D rfl
  rcases hb with ⟨cs, E, h, _⟩ | ⟨es, ck, h, _⟩
  · rw [hD] at h; cases h
  · rw [hD] at h; cases h
theorem Marks.keep {w0 : World} {M : Nat → Prop} {Z Z' : Beg} {G G' : Gh} {st st' : ASt} {a a' : Act} {w w' : World} {ds ds2 : List Deferred} (hm : Marks w0.heap.size G.S w ds) (hR : R P w0 M Z G st a w) (hm2 : Marks w.heap.size G'.S w' ds2) (h : R P w G.reg Z' G' st' a' w') (hZ : Z'.G = G) : Marks w0.heap.size G'.S w' (ds2 ++ ds) := by
  have hlt : ∀ d ∈ ds, ∃ D, d = { target := .collected D, args := #[] } ∧ D < w.heap.size := fun d hd => by
    obtain ⟨D, e1, _, _, e4⟩ := hm.2 d hd
    exact ⟨D, e1, (Array.getElem?_eq_some_iff.1 e4).1⟩
  refine ⟨List.nodup_append.2 ⟨hm2.1, hm.1, fun x hx y hy e => ?_⟩, fun d hd => ?_⟩
  · subst e
    obtain ⟨D, e1, e2, _⟩ := hm2.2 x hx
    obtain ⟨D', e3, e4⟩ := hlt x hy
    rw [e1] at e3
    cases e3
    omega
  · rcases List.mem_append.1 hd with hd | hd
    · obtain ⟨D, e1, e2, e3⟩ := hm2.2 d hd
      exact ⟨D, e1, Nat.le_trans hR.keep.size e2, e3⟩
    · obtain ⟨D, e1, e2, e3, e4⟩ := hm.2 d hd
      have hD := (Array.getElem?_eq_some_iff.1 e4).1
      refine ⟨D, e1, e2, fun hs => ?_, (h.keep.block D hD (hR.notReg e4)).trans e4⟩
      rcases h.fr D hs with h' | h' | h'
      · rw [hZ] at h'; exact e3 h'
      · omega
      · exact hR.notReg e4 h'
theorem PostR.glue {pl pl' : Bool} {w0 : World} {M : Nat → Prop} {Z : Beg} {G : Gh} {a : Act} {w : World} {ds : List Deferred} {N : Nat} {Q : Ex → ASt → Prop} {e : Exit} {a' : Act} {w' : World} (hp : pl' = true → ds = [] ∧ pl = true) (hm : Marks w0.heap.size G.S w ds) (hR : R P w0 M ⟨Z.G, Z.c, ds ++ Z.defs, Z.lim⟩ G st a w) (h : PostR P pl w G.reg ⟨G, Z.c, ds ++ Z.defs, Z.lim⟩ N Q e a' w') : PostR P pl' w0 M Z N Q e a' w' := by
  obtain ⟨ex, s, G', h0, h1, h2, ds2, hp2, hm2, h3⟩ := h
  refine ⟨ex, s, G', h0, h1, h2, ds2 ++ ds, fun e => by rw [hp2 (hp e).2, (hp e).1]; rfl, hm.keep hR hm2 h3 rfl, ?_⟩
  rw [List.append_assoc]
  exact hR.unbaseD h3
theorem SWp.next [Lim] {pl : Bool} {w0 : World} {M : Nat → Prop} {Z : Beg} {G : Gh} {a : Act} {w : World} {y : SCode} {cy : Code} (hm : P.follows .mixedOrders = true) (hZ : Z.lim = Lim.lim) (hR : RM P pl w0 M Z G st a w) (h : SWp P y Q st) (hy : slimC P st.N cy = y) : wpR P cy (PostR P (pl && plainC cy) w0 M Z st.N Q) a w := by
  obtain ⟨ds, hpl, hmk, hR⟩ := hR
  exact wpR_mono (h hm cy hy w G.reg ⟨G, Z.c, ds ++ Z.defs, Z.lim⟩ G a w hZ hR.rebase) fun _ _ _ h => h.glue (fun e => by
    rw [Bool.and_eq_true] at e
    exact ⟨hpl e.1, e.2⟩) hmk hR
def thn (P : Program) [Tabs P] [Lim] (b : SCode) (Q : Ex → ASt → Prop) : Ex → ASt → Prop
  | .normal, s => SWp P b Q s
  | e, s => Q e s
theorem SWp.seq [Lim] {x y : SCode} (h : SWp P x (thn P y Q) st) : SWp P (.seq x y) Q st := by
  intro hm code hc w0 M Z G a w hZ hR
  cases code with
  | seq cx cy =>
    simp only [slimC, SCode.seq.injEq] at hc
    obtain ⟨hx, hy⟩ := hc
    refine wpR_seq (wpR_mono (h hm cx hx w0 M Z G a w hZ hR) ?_)
    rintro e a' w' ⟨ex, s, G', rfl, h1, h2, h3⟩
    cases ex with
    | normal =>
      have := SWp.next (cy := cy) hm hZ h3 h1 (by rw [h2]; exact hy)
      exact wpR_mono this fun e a w ⟨ex, s', G', k1, k2, k3, k4⟩ => ⟨ex, s', G', k1, k2, k3.trans h2, k4⟩
    | exit id => exact ⟨.exit id, s, G', rfl, h1, h2, h3.weak fun e => by simp only [plainC, Bool.and_eq_true] at e; exact e.1⟩
    | ret => exact ⟨.ret, s, G', rfl, h1, h2, h3.weak fun e => by simp only [plainC, Bool.and_eq_true] at e; exact e.1⟩
  | region id ops draw => simp only [slimC] at hc; (repeat' split at hc) <;> simp at hc
  | _ => simp [slimC] at hc
theorem SWp.skip [Lim] (h : Q .normal st) : SWp P .skip Q st := by
  intro hm code hc w0 M Z G a w hZ hR
  cases code with
  | skip => exact wpR_skip ⟨.normal, st, G, rfl, h, rfl, .of hR⟩
  | region id ops draw => simp only [slimC] at hc; (repeat' split at hc) <;> simp at hc
  | _ => simp [slimC] at hc
theorem SWp.ret [Lim] (h : Q .ret st) : SWp P .ret Q st := by
  intro hm code hc w0 M Z G a w hZ hR
  cases code with
  | ret => exact wpR_ret ⟨.ret, st, G, rfl, h, rfl, .of hR⟩
  | region id ops draw => simp only [slimC] at hc; (repeat' split at hc) <;> simp at hc
  | _ => simp [slimC] at hc
theorem SWp.exit [Lim] {id : Nat} (h : Q (.exit id) st) : SWp P (.exit id) Q st := by
  intro hm code hc w0 M Z G a w hZ hR
  cases code with
  | exit id' =>
    simp only [slimC, SCode.exit.injEq] at hc
    subst hc
    exact wpR_exit ⟨.exit id', st, G, rfl, h, rfl, .of hR⟩
  | region id ops draw => simp only [slimC] at hc; (repeat' split at hc) <;> simp at hc
  | _ => simp [slimC] at hc
theorem SWp.cond [Lim] {c : Operand} {x y : SCode} {t : Bool} (hc0 : ev P st c = .sc (.bool t)) (ht : t = true → SWp P x Q st) (hf : t = false → SWp P y Q st) : SWp P (.cond c x y) Q st := by
  intro hm code hc w0 M Z G a w hZ hR
  cases code with
  | cond c' cx cy =>
    simp only [slimC, SCode.cond.injEq] at hc
    obtain ⟨rfl, hx, hy⟩ := hc
    have hv : a.eval c' = .bool t := by
      have := hR.ev c'
      rw [hc0] at this
      exact this.sc_inv
    refine wpR_cond_split hv (fun e => wpR_mono (ht e hm cx hx w0 M Z G a w hZ hR) ?_) (fun e => wpR_mono (hf e hm cy hy w0 M Z G a w hZ hR) ?_)
    · rintro e a' w' ⟨ex, s, G', h0, h1, h2, h3⟩
      exact ⟨ex, s, G', h0, h1, h2, h3.weak fun e => by simp only [plainC, Bool.and_eq_true] at e; exact e.1⟩
    · rintro e a' w' ⟨ex, s, G', h0, h1, h2, h3⟩
      exact ⟨ex, s, G', h0, h1, h2, h3.weak fun e => by simp only [plainC, Bool.and_eq_true] at e; exact e.2⟩
  | region id ops draw => simp only [slimC] at hc; (repeat' split at hc) <;> simp at hc
  | _ => simp [slimC] at hc
def inb (id : Nat) (Q : Ex → ASt → Prop) : Ex → ASt → Prop
  | .exit id', s => if id' = id then Q .normal s else Q (.exit id') s
  | e, s => Q e s
theorem SWp.block [Lim] {id : Nat} {x : SCode} (h : SWp P x (inb id Q) st) : SWp P (.block id x) Q st := by
  intro hm code hc w0 M Z G a w hZ hR
  cases code with
  | block id' cx =>
    simp only [slimC, SCode.block.injEq] at hc
    obtain ⟨rfl, hx⟩ := hc
    refine wpR_block (wpR_mono (h hm cx hx w0 M Z G a w hZ hR) ?_)
    rintro e a' w' ⟨ex, s, G', rfl, h1, h2, h3⟩
    cases ex with
    | normal => exact ⟨.normal, s, G', rfl, h1, h2, h3⟩
    | ret => exact ⟨.ret, s, G', rfl, h1, h2, h3⟩
    | exit i =>
      simp only [Ex.out, Exit.inBlock]
      simp only [inb] at h1
      split
      · rename_i e; rw [if_pos e] at h1; exact ⟨.normal, s, G', rfl, h1, h2, h3⟩
      · rename_i e; rw [if_neg e] at h1; exact ⟨.exit i, s, G', rfl, h1, h2, h3⟩
  | region id ops draw => simp only [slimC] at hc; (repeat' split at hc) <;> simp at hc
  | _ => simp [slimC] at hc
structure Le (st st' : ASt) : Prop where
  tm : ∀ t, st'.tm t = st.tm t ∨ st'.tm t = .junk
  hp : ∀ id, st'.hp id = st.hp id ∨ st'.hp id = none
  gc : st.gc ≤ st'.gc
  N : st'.N = st.N
theorem Le.refl (st : ASt) : Le st st := ⟨fun _ => .inl rfl, fun _ => .inl rfl, Nat.le_refl _, rfl⟩
theorem R.leF {w0 : World} {M : Nat → Prop} {Z : Beg} {G : Gh} {a : Act} {w : World} (hR : R P w0 M Z G st a w) (h : Le st st') : ∃ G', (G'.S = G.S ∧ (∀ id, st'.hp id = none → ∀ g, G'.ob id g = none) ∧ ∀ c, Ext c G w G' w) ∧ R P w0 M Z G' st' a w := by
  let G' : Gh := ⟨G.S, fun id g => if st'.hp id = none then none else G.ob id g⟩
  have hE : ∀ c, Ext c G w G' w := fun c => ⟨fun _ h => h, fun _ _ => rfl, fun _ _ h => h, fun id g ob _ ho => by
    simp only [G'] at ho
    split at ho
    · simp at ho
    · exact ho⟩
  have hkeep : ∀ id o, st'.hp id = some o → st.hp id = some o := fun id o ho => by
    rcases h.hp id with e | e
    · rw [← e]; exact ho
    · rw [e] at ho; simp at ho
  refine ⟨G', ⟨rfl, fun id h g => if_pos h, hE⟩, hR.keep, ⟨hR.heap.lt, ?_, ?_, ?_, ?_⟩, by rw [h.N]; exact hR.size, ?_, ?_, hR.defers, hR.fr, hR.ext.trans hR.lc (hE st.gc), Nat.le_trans hR.lc h.gc, hR.lc1, hR.tabs⟩
  · intro id g ob ho
    simp only [G'] at ho
    split at ho
    · simp at ho
    · rename_i hne
      obtain ⟨o, h1⟩ := hR.heap.live _ _ _ ho
      rcases h.hp id with e | e
      · exact ⟨o, by rw [e]; exact h1⟩
      · exact absurd e hne
  · intro id g nl cells ho
    obtain ⟨a, b⟩ := hR.heap.gl _ _ _ _ (hkeep _ _ ho)
    exact ⟨Nat.lt_of_lt_of_le a h.gc, glL_mono h.gc _ b⟩
  · intro id g id' g' b h1 h2
    exact hR.heap.inj _ _ _ _ _ ((hE (g + 1)).ob _ _ _ (by omega) h1) ((hE (g' + 1)).ob _ _ _ (by omega) h2)
  · intro id g nl cells ho
    obtain ⟨ob, h1, h2, h3, h4⟩ := hR.heap.row _ _ _ _ (hkeep _ _ ho)
    refine ⟨ob, ?_, h2, h3, fun b hb => ?_⟩
    · simp only [G']
      rw [if_neg (by rw [ho]; simp)]
      exact h1
    · obtain ⟨k1, k2, vs, k4, k3⟩ := h4 b hb
      exact ⟨k1, k2, vs, RdL.mono (hE st.gc) _ _ (hR.heap.gl _ _ _ _ (hkeep _ _ ho)).2 k4, k3⟩
  · intro t
    rcases h.tm t with e | e
    · rw [e]; exact Rd.mono (hE st.gc) _ _ (hR.gl t) (hR.tm t)
    · rw [e]; simp [Rd]
  · intro t
    rcases h.tm t with e | e
    · rw [e]; exact gl_mono h.gc _ (hR.gl t)
    · rw [e]; simp [AV.gl]
theorem R.leE {w0 : World} {M : Nat → Prop} {Z : Beg} {G : Gh} {a : Act} {w : World} (hR : R P w0 M Z G st a w) (h : Le st st') : ∃ G', Ext st.gc G w G' w ∧ R P w0 M Z G' st' a w := by
  obtain ⟨G', h1, h2⟩ := hR.leF h
  exact ⟨G', h1.2.2 _, h2⟩
theorem R.le {w0 : World} {M : Nat → Prop} {Z : Beg} {G : Gh} {a : Act} {w : World} (hR : R P w0 M Z G st a w) (h : Le st st') : ∃ G', R P w0 M Z G' st' a w := by
  obtain ⟨G', _, h⟩ := hR.leE h
  exact ⟨G', h⟩
theorem SWp.le [Lim] {c : SCode} (hl : Le st st') (h : SWp P c Q st') : SWp P c Q st := by
  intro hm code hc w0 M Z G a w hZ hR
  obtain ⟨G', hR'⟩ := hR.le hl
  have := h hm code (by rw [hl.N]; exact hc) w0 M Z G' a w hZ hR'
  exact wpR_mono this fun _ _ _ ⟨ex, s, G', h1, h2, h3, h4⟩ => ⟨ex, s, G', h1, h2, h3.trans hl.N, h4⟩
def At {α : Type} (F : α → ASt) (I : α → Prop) (μ : α → Nat) (n : Nat) (s : ASt) : Prop := ∃ k', I k' ∧ μ k' < n ∧ Le s (F k')
def lp {α : Type} (F : α → ASt) (I : α → Prop) (μ : α → Nat) (n : Nat) (Q : Ex → ASt → Prop) : Ex → ASt → Prop
  | .normal, s => At F I μ n s
  | e, s => Q e s
theorem SWp.loop [Lim] {x : SCode} {α : Type} (F : α → ASt) (I : α → Prop) (μ : α → Nat) (a0 : α) (h0 : I a0) (hst : Le st (F a0))
    (h : ∀ k, I k → (F k).N = st.N → SWp P x (lp F I μ (μ k) Q) (F k)) : SWp P (.loop x) Q st := by
  intro hm code hc w0 M Z G a w hZ hR
  cases code with
  | loop cx =>
    simp only [slimC, SCode.loop.injEq] at hc
    have key : ∀ n k G w0 M Z a w, I k → μ k = n → (F k).N = st.N → Z.lim = Lim.lim → R P w0 M Z G (F k) a w → headR P cx (PostR P (plainC cx) w0 M Z st.N Q) a w := by
      intro n
      induction n using Nat.strongRecOn with
      | _ n ih =>
        intro k G w0 M Z a w hI hμ hN hZ hRk
        refine headR_round (wpR_mono (h k hI hN hm cx (by rw [hN]; exact hc) w0 M Z G a w hZ hRk) ?_)
        rintro e a' w' ⟨ex, s, G', rfl, h1, h2, h3⟩
        cases ex with
        | normal =>
          obtain ⟨k', hI', hlt, hle⟩ := h1
          obtain ⟨ds, hpl, hmk, h3⟩ := h3
          obtain ⟨G₂, hR₂⟩ := h3.rebase.le hle
          exact headR_mono (ih (μ k') (by omega) k' G₂ w' G'.reg ⟨G', Z.c, ds ++ Z.defs, Z.lim⟩ a' w' hI' rfl (by rw [hle.N, h2, hN]) hZ hR₂) fun _ _ _ h => h.glue (fun e => ⟨hpl e, e⟩) hmk h3
        | exit id => exact ⟨.exit id, s, G', rfl, h1, h2.trans hN, h3⟩
        | ret => exact ⟨.ret, s, G', rfl, h1, h2.trans hN, h3⟩
    obtain ⟨G0, hR0⟩ := hR.le hst
    exact headR_loop (key _ a0 G0 w0 M Z a w h0 rfl hst.N hZ hR0)
  | region id ops draw => simp only [slimC] at hc; (repeat' split at hc) <;> simp at hc
  | _ => simp [slimC] at hc
def look : List (Nat × AV) → Nat → AV
  | [], _ => .junk
  | (s, v) :: r, t => if t = s then v else look r t
def mk (N gc : Nat) (l : List (Nat × AV)) (h : List (Nat × Nat × AO)) : ASt := ⟨look l, lookH h, gc, N⟩
theorem look_or : ∀ (l : List (Nat × AV)) (t : Nat), (∃ p ∈ l, p.1 = t ∧ look l t = p.2) ∨ look l t = .junk
  | [], _ => .inr rfl
  | (s, v) :: r, t => by
    simp only [look]
    by_cases e : t = s
    · rw [if_pos e]; exact .inl ⟨(s, v), by simp, e.symm, rfl⟩
    · rw [if_neg e]
      rcases look_or r t with ⟨p, h1, h2⟩ | h
      · exact .inl ⟨p, by simp [h1], h2⟩
      · exact .inr h
theorem lookH_or : ∀ (l : List (Nat × Nat × AO)) (t : Nat), (∃ p ∈ l, p.1 = t ∧ lookH l t = some p.2) ∨ lookH l t = none
  | [], _ => .inr rfl
  | (s, v) :: r, t => by
    simp only [lookH]
    by_cases e : t = s
    · rw [if_pos e]; exact .inl ⟨(s, v), by simp, e.symm, rfl⟩
    · rw [if_neg e]
      rcases lookH_or r t with ⟨p, h1, h2⟩ | h
      · exact .inl ⟨p, by simp [h1], h2⟩
      · exact .inr h
def AllTm (f : Nat → AV) : List (Nat × AV) → Prop
  | [] => True
  | p :: r => f p.1 = p.2 ∧ AllTm f r
def AllHp (f : Hp) : List (Nat × Nat × AO) → Prop
  | [] => True
  | p :: r => f p.1 = some p.2 ∧ AllHp f r
theorem AllTm.mem {f : Nat → AV} : ∀ {l : List (Nat × AV)}, AllTm f l → ∀ p ∈ l, f p.1 = p.2
  | [], _, p, hp => by simp at hp
  | q :: r, h, p, hp => by
    rcases List.mem_cons.1 hp with rfl | hp
    · exact h.1
    · exact AllTm.mem h.2 p hp
theorem AllHp.mem {f : Hp} : ∀ {l : List (Nat × Nat × AO)}, AllHp f l → ∀ p ∈ l, f p.1 = some p.2
  | [], _, p, hp => by simp at hp
  | q :: r, h, p, hp => by
    rcases List.mem_cons.1 hp with rfl | hp
    · exact h.1
    · exact AllHp.mem h.2 p hp
theorem le_mk {N gc : Nat} {l : List (Nat × AV)} {h : List (Nat × Nat × AO)} (hN : N = st.N) (hgc : st.gc ≤ gc) (hl : AllTm st.tm l) (hh : AllHp st.hp h) : Le st (mk N gc l h) := by
  refine ⟨fun t => ?_, fun id => ?_, hgc, hN⟩
  · rcases look_or l t with ⟨p, h1, rfl, h3⟩ | h1
    · exact .inl (by simp only [mk]; rw [h3, hl.mem p h1])
    · exact .inr h1
  · rcases lookH_or h id with ⟨p, h1, rfl, h3⟩ | h1
    · exact .inl (by simp only [mk]; rw [h3, hh.mem p h1])
    · exact .inr h1
inductive RV where
  | tmp (t : Nat)
  | cell (a : Nat) (sz : Option Nat)
def resOne (P : Program) : ResultVar → Option RV
  | .tmp t => some (.tmp t)
  | .cell a t => (szT P t).map fun sz => .cell a sz
def resRun (a : Act) : ResultVar → Sem Value
  | .tmp t => pure (a.tmps.getD t undef)
  | .cell c t => do loadVar t (← asAddr (a.tmps.getD c undef))
def slimRes (P : Program) (fn : Func) : Option (List RV) := fn.results.toList.mapM (resOne P)
def rval (st : ASt) : RV → Prop × AV
  | .tmp t => (True, st.tm t)
  | .cell a sz => aLoad sz (st.tm a) st.hp
def allOk (st : ASt) : List RV → Prop
  | [] => True
  | r :: rs => (rval st r).1 ∧ allOk st rs
def outOf (st : ASt) : List RV → AV
  | [r] => (rval st r).2
  | rs => .tup (rs.map fun r => (rval st r).2)
def fin (rs : List RV) (out : AV) : Ex → ASt → Prop
  | .exit _, _ => False
  | _, st => allOk st rs ∧ frz st.hp (outOf st rs) = out
theorem results_run {w0 : World} {M : Nat → Prop} {Z : Beg} {G : Gh} {a : Act} {w : World} (hR : R P w0 M Z G st a w) {fn : Func} {rs : List RV} (hrs : slimRes P fn = some rs) (hok : allOk st rs) :
    ∃ v, (results fn a.tmps).run P w = .ok v w ∧ Rd G w (outOf st rs) v ∧ (outOf st rs).gl st.gc := by
  have one : ∀ (rv : ResultVar) (r : RV), resOne P rv = some r → (rval st r).1 → ∃ v, (resRun a rv).run P w = .ok v w ∧ Rd G w (rval st r).2 v ∧ (rval st r).2.gl st.gc := by
    intro rv r h1 h2
    cases rv with
    | tmp t =>
      simp [resOne] at h1; subst h1
      exact ⟨_, rfl, hR.tm t, hR.gl t⟩
    | cell c t =>
      simp only [resOne, Option.map_eq_some_iff] at h1
      obtain ⟨sz, hT, rfl⟩ := h1
      obtain ⟨v, k1, k2, k3⟩ := aLoad_sound (P := P) hR.heap hT h2 (hR.tm c) (hR.gl c)
      refine ⟨v, ?_, k2, k3⟩
      have hp : ∃ p, a.tmps.getD c undef = .pointer (some p) := by
        simp only [rval, aLoad] at h2
        have := hR.tm c
        split at h2
        · rename_i y o e
          rw [e] at this
          simp only [Rd] at this
          obtain ⟨u, b, o', _, h, _⟩ := this
          exact ⟨_, h⟩
        · rename_i id g o e
          rw [e] at this
          split at h2
          · rename_i g' nl cells hid
            obtain ⟨rfl, _⟩ := h2
            obtain ⟨b, h, _⟩ := ptr_sound hR.heap (by simp [live, hid]) this
            exact ⟨_, h⟩
          · simp [stuckR] at h2
        · simp [stuckR] at h2
      obtain ⟨p, hp⟩ := hp
      rw [hp] at k1
      simpa [resRun, hp, Instr.loadAt, Instr.sureAddr, asAddr] using k1
  have all : ∀ (l : List ResultVar) (rs : List RV), l.mapM (resOne P) = some rs → allOk st rs →
      ∃ vs, (l.mapM (resRun a)).run P w = .ok vs w ∧ RdL G w (rs.map fun r => (rval st r).2) vs ∧ AV.gl.glL st.gc (rs.map fun r => (rval st r).2) := by
    intro l
    induction l with
    | nil =>
      intro rs h _
      simp at h; subst h
      exact ⟨[], by simp, by simp [RdL], by simp [AV.gl.glL]⟩
    | cons rv l ih =>
      intro rs h hok
      simp only [List.mapM_cons, Option.bind_eq_bind, Option.pure_def] at h
      cases ho : resOne P rv with
      | none => rw [ho] at h; simp at h
      | some r =>
        rw [ho] at h
        cases hr : l.mapM (resOne P) with
        | none => simp [hr] at h
        | some r' =>
          simp [hr] at h; subst h
          simp only [allOk] at hok
          obtain ⟨v, k1, k2, k3⟩ := one rv r ho hok.1
          obtain ⟨vs, q1, q2, q3⟩ := ih r' hr hok.2
          refine ⟨v :: vs, ?_, ?_, ?_⟩
          · simp only [List.mapM_cons]
            simp [k1, q1]
          · simp only [List.map_cons, RdL]; exact ⟨v, vs, rfl, k2, q2⟩
          · simp only [List.map_cons, AV.gl.glL]; exact ⟨k3, q3⟩
  obtain ⟨vs, q1, q2, q3⟩ := all fn.results.toList rs hrs hok
  have hrun : (results fn a.tmps).run P w = .ok (if h : vs.toArray.size = 1 then vs.toArray[0] else .tuple vs.toArray) w := by
    have e0 : results fn a.tmps = (do
        let vs ← fn.results.mapM (resRun a)
        pure (if h : vs.size = 1 then vs[0] else .tuple vs)) := rfl
    rw [e0, Array.mapM_eq_mapM_toList]
    simp [q1]
  refine ⟨_, hrun, ?_⟩
  have hl := q2.length
  rw [List.length_map] at hl
  clear hrun q1 hrs hok all one
  match rs, vs, hl, q2, q3 with
  | [], [], _, _, _ =>
    refine ⟨?_, by simp [outOf, AV.gl, AV.gl.glL]⟩
    simp only [outOf, List.map_nil, Rd]
    exact ⟨[], by simp, by simp [RdL]⟩
  | [r], [v], _, q2, q3 =>
    simp only [List.map_cons, List.map_nil, RdL] at q2
    obtain ⟨v', _, h, hr, rfl⟩ := q2
    simp at h; subst h
    simp only [List.map_cons, List.map_nil, AV.gl.glL] at q3
    exact ⟨by simpa [outOf] using hr, by simpa [outOf] using q3.1⟩
  | r :: r' :: rs, v :: v' :: vs, _, q2, q3 =>
    refine ⟨?_, by simpa [outOf, AV.gl] using q3⟩
    have e : ¬ ((v :: v' :: vs).toArray.size = 1) := by simp
    simp only [e, outOf]
    simp only [Rd]
    exact ⟨_, rfl, q2⟩
def start (N : Nat) (ins : List AV) : ASt := ⟨fun t => ins.getD t .junk, fun _ => none, 0, N⟩
theorem R.putMark {w0 : World} {M : Nat → Prop} {Z : Beg} {G : Gh} {a : Act} {w : World} (hR : R P w0 M Z G st a w) {D : Nat} {x y : Option (List Deferred)} (hD : w.heap[D]? = some (.deferred x)) (h0 : w0.heap.size ≤ D) (hS : ¬ G.S D) : R P w0 M Z G st a (w.putObj D (.deferred y)) := by
  have hne : ∀ b, b ≠ D → (w.putObj D (.deferred y)).heap[b]? = w.heap[b]? := fun b hb => World.putObj_heap_other hb
  have hE : Ext st.gc G w G (w.putObj D (.deferred y)) := ⟨fun _ h => h, fun b hb => hne b (fun e => hS (e ▸ hb)), fun b p h => by
    by_cases e : b = D
    · subst e; simp [World.shape?, hD] at h
    · simpa only [World.shape?, hne b e] using h, fun _ _ _ _ h => h⟩
  refine ⟨⟨hR.keep.os, hR.keep.tape, hR.keep.output, by rw [World.putObj_size]; exact hR.keep.size, fun k h1 h2 => by rw [hne k (by omega)]; exact hR.keep.block k h1 h2⟩, ⟨fun b hb => by rw [World.putObj_size]; exact hR.heap.lt b hb, hR.heap.live, hR.heap.gl, hR.heap.inj, ?_⟩, hR.size, fun t => Rd.mono hE _ _ (hR.gl t) (hR.tm t), hR.gl, hR.defers, hR.fr, hR.ext.trans hR.lc hE, hR.lc, hR.lc1, hR.tabs.mono hE.S hE.cells⟩
  intro id g nl cells hid
  obtain ⟨ob, h1, h2, h3, h4⟩ := hR.heap.row _ _ _ _ hid
  refine ⟨ob, h1, h2, h3, fun b hb => ?_⟩
  obtain ⟨k1, k2, vs, k4, k3⟩ := h4 b hb
  exact ⟨k1, k2, vs, RdL.mono hE _ _ (hR.heap.gl _ _ _ _ hid).2 k4, by rw [hne b (fun e => hR.notReg (e ▸ hD) ⟨id, g, by rw [h1, hb]⟩)]; exact k3⟩
theorem leaves_marks {w0 : World} {M : Nat → Prop} {Z : Beg} {G : Gh} {a : Act} {F : Fence} {n : Nat} {fn : Func} {tmps : Array Value} {R' : Ending → World → Prop} : ∀ (ds : List Deferred) (w : World), Marks w0.heap.size G.S w ds → R P w0 M Z G st a w →
    (∀ w', R P w0 M Z G st a w' → LeavesIn F n P fn tmps R' [] .returning w') → LeavesInM F n P fn tmps R' ds .returning w
  | [], w, _, hR, h => h w hR
  | d :: ds, w, hm, hR, h => by
    obtain ⟨hnd, hm⟩ := hm
    obtain ⟨D, e1, e2, e3, e4⟩ := hm d (by simp)
    have hlt := (Array.getElem?_eq_some_iff.1 e4).1
    refine ⟨by simp, .inl ⟨D, _, by rw [e1], run_takeDeferred e4, leaves_marks ds _ ⟨(List.nodup_cons.1 hnd).2, fun d' hd' => ?_⟩ (hR.putMark e4 e2 e3) h⟩⟩
    obtain ⟨D', f1, f2, f3, f4⟩ := hm d' (by simp [hd'])
    refine ⟨D', f1, f2, f3, (World.putObj_heap_other fun e => ?_).trans f4⟩
    subst e
    exact (List.nodup_cons.1 hnd).1 (by rw [e1, ← f1]; exact hd')
theorem Con.of [Lim] {f : Nat} {fn : Func} {code : Code} {ins : List AV} {out : AV} {S : SCode} {rs : List RV} (hm : P.follows .mixedOrders = true) (hf : P.funcs[f]? = some fn) (hb : fn.body = some code) (hs : slimC P fn.ntmps code = S) (hrs : slimRes P fn = some rs)
    (hn : ins.length ≤ fn.ntmps) (hfree : AV.free.freeL ins = true) (hof : out.free = true) (h : SWp P S (fin rs out) (start fn.ntmps ins)) : Con P f ins out := by
  intro w Sf vs htab hlt hrd
  have hl := hrd.length
  refine (callsIn_wide (n := 0)).1 (callsIn_of_wp_marks hf hb trivial ?_)
  have hR : R P w (fun _ => False) ⟨⟨Sf, fun _ _ => none⟩, 0, [], Lim.lim⟩ ⟨Sf, fun _ _ => none⟩ (start fn.ntmps ins) { tmps := vs.toArray ++ Array.replicate (fn.ntmps - vs.toArray.size) undef, defers := [] } w := by
    refine ⟨Keep.refl _ _ _, ⟨hlt, ?_, ?_, ?_, ?_⟩, ?_, ?_, ?_, rfl, fun b hb => .inl hb, Ext.refl _ _ _, Nat.le_refl _, Nat.zero_le _, htab⟩
    · intro id g ob ho; simp at ho
    · intro id g nl cells ho; simp [start] at ho
    · intro id g id' g' b ho; simp at ho
    · intro id g nl cells ho; simp [start] at ho
    · simp [start]; omega
    · intro t
      simp only [start]
      cases hi : ins[t]? with
      | none => simp [List.getD, hi, Rd]
      | some x =>
        obtain ⟨v, hv, hr⟩ := hrd.get t x hi
        have hlt' : t < vs.length := lt_of_get hv
        have : (vs.toArray ++ Array.replicate (fn.ntmps - vs.toArray.size) undef).getD t undef = v := by
          rw [Array.getD_eq_getD_getElem?, Array.getElem?_append_left (by simpa using hlt')]
          simp [hv]
        simp only [List.getD, hi, Option.getD_some]
        rw [this]
        exact hr
    · intro t
      simp only [start]
      cases hi : ins[t]? with
      | none => simp [List.getD, hi, AV.gl]
      | some x =>
        simp only [List.getD, hi, Option.getD_some]
        exact gl_of_free _ _ (freeL_iff.1 hfree x (List.mem_of_getElem? hi))
  refine wpIn_mono (h hm code hs w _ _ _ _ w rfl hR none 0 (.inl rfl)) ?_
  rintro e a' w' ⟨ex, s, G', rfl, hq, _, ds, -, hmk, hR'⟩
  obtain ⟨he, hok, rfl⟩ : (Ex.out ex = .normal ∨ Ex.out ex = .ret) ∧ allOk s rs ∧ frz s.hp (outOf s rs) = out := by
    cases ex with
    | normal => exact ⟨.inl rfl, hq⟩
    | ret => exact ⟨.inr rfl, hq⟩
    | exit id => exact hq.elim
  rcases he with he | he
  all_goals
    rw [he]
    show LeavesInM Fence.wide 0 P fn a'.tmps _ a'.defers .returning w'
    rw [hR'.defers, List.append_nil]
    refine leaves_marks ds w' hmk hR' fun w' hR' => ?_
    show ∃ v, (results fn a'.tmps).run P w' = .ok v w' ∧ _
    obtain ⟨v, k1, k2, k3⟩ := results_run hR' hrs hok
    have hfz := frz_sound hR'.heap _ _ k3 k2
    refine ⟨v, k1, v, fun b => (Sf b ∨ w.heap.size ≤ b) ∧ b < w'.heap.size, rfl, hR'.keep, fun b hb => ⟨.inl hb, Nat.lt_of_lt_of_le (hlt b hb) hR'.keep.size⟩, fun b hb => hb.1, fun b hb => hb.2, hof, ?_⟩
    have hSG : ∀ b, (GF G').S b → (Sf b ∨ w.heap.size ≤ b) ∧ b < w'.heap.size := by
      rintro b (hb | ⟨id, g, hb⟩)
      · exact ⟨(hR'.fr b hb).elim .inl (fun h => h.elim .inr (fun h => h.elim)), hR'.heap.lt b hb⟩
      · obtain ⟨⟨nl, cells⟩, ho⟩ := hR'.heap.live _ _ _ hb
        obtain ⟨ob, e1, _, _, e4⟩ := hR'.heap.row _ _ _ _ ho
        rw [hb] at e1; cases e1
        obtain ⟨_, e5, _, _, e6⟩ := e4 b rfl
        exact ⟨.inr (e5.elim (fun h => h) (fun h => h.elim)), e6.lt⟩
    exact Rd.of_free (G := GF G') (G' := ⟨fun b => (Sf b ∨ w.heap.size ≤ b) ∧ b < w'.heap.size, fun _ _ => none⟩) hSG (fun _ _ => rfl) _ _ hof hfz
def startH (N : Nat) (ins : List AV) (hin : List AO) : ASt := ⟨fun t => ins.getD t .junk, hin0 hin, 1, N⟩
def finH (rs : List RV) (out : AV) (hout : List (Nat × Nat × AO)) (k : Nat) : Ex → ASt → Prop
  | .exit _, _ => False
  | _, st => allOk st rs ∧ outOf st rs = out ∧ AllHp st.hp hout ∧ st.gc ≤ k
theorem HCon.of {f : Nat} {fn : Func} {code : Code} {ins : List AV} {hin : List AO} {out : AV} {hout : List (Nat × Nat × AO)} {k : Nat} {S : SCode} {rs : List RV} (hm : P.follows .mixedOrders = true) (hf : P.funcs[f]? = some fn) (hb : fn.body = some code) (hs : slimC P fn.ntmps code = S) (hrs : slimRes P fn = some rs)
    (hn : ins.length ≤ fn.ntmps) (hgl : AV.gl.glL 1 ins) (hgo : ∀ nl cells, AO.row nl cells ∈ hin → AV.gl.glL 1 cells) (h : @SWp P _ lim1 S (finH rs out hout k) (startH fn.ntmps ins hin)) : HCon P f ins hin out hout k := by
  refine ⟨hgl, hgo, ?_⟩
  intro w G M vs htab hH hrd
  have hl := hrd.length
  refine (callsIn_wide (n := 0)).1 (callsIn_of_wp_marks hf hb trivial ?_)
  have hR : R P w M ⟨G, 1, [], 1⟩ G (startH fn.ntmps ins hin) { tmps := vs.toArray ++ Array.replicate (fn.ntmps - vs.toArray.size) undef, defers := [] } w := by
    refine ⟨Keep.refl _ _ _, ⟨hH.lt, hH.live, hH.gl, hH.inj, ?_⟩, ?_, ?_, ?_, rfl, fun b hb => .inl hb, Ext.refl _ _ _, Nat.le_refl _, Nat.le_refl _, htab⟩
    · intro id g nl cells ho
      obtain ⟨ob, k1, k2, k3, k4⟩ := hH.row _ _ _ _ ho
      refine ⟨ob, k1, k2, k3, fun b hb => ?_⟩
      obtain ⟨q1, q2, q3⟩ := k4 b hb
      exact ⟨q1, .inr q2, q3⟩
    · simp [startH]; omega
    · intro t
      simp only [startH]
      cases hi : ins[t]? with
      | none => simp [List.getD, hi, Rd]
      | some x =>
        obtain ⟨v, hv, hr⟩ := hrd.get t x hi
        have hlt' : t < vs.length := lt_of_get hv
        have : (vs.toArray ++ Array.replicate (fn.ntmps - vs.toArray.size) undef).getD t undef = v := by
          rw [Array.getD_eq_getD_getElem?, Array.getElem?_append_left (by simpa using hlt')]
          simp [hv]
        simp only [List.getD, hi, Option.getD_some]
        rw [this]
        exact hr
    · intro t
      simp only [startH]
      cases hi : ins[t]? with
      | none => simp [List.getD, hi, AV.gl]
      | some x =>
        simp only [List.getD, hi, Option.getD_some]
        exact glL_iff.1 hgl x (List.mem_of_getElem? hi)
  refine wpIn_mono (h hm code hs w _ _ _ _ w rfl hR none 0 (.inl rfl)) ?_
  rintro e a' w' ⟨ex, s, G', rfl, hq, _, ds, -, hmk, hR'⟩
  obtain ⟨he, hok, rfl, hall, hk⟩ : (Ex.out ex = .normal ∨ Ex.out ex = .ret) ∧ allOk s rs ∧ outOf s rs = out ∧ AllHp s.hp hout ∧ s.gc ≤ k := by
    cases ex with
    | normal => exact ⟨.inl rfl, hq⟩
    | ret => exact ⟨.inr rfl, hq⟩
    | exit id => exact hq.elim
  rcases he with he | he
  all_goals
    rw [he]
    show LeavesInM Fence.wide 0 P fn a'.tmps _ a'.defers .returning w'
    rw [hR'.defers, List.append_nil]
    refine leaves_marks ds w' hmk hR' fun w' hR' => ?_
    show ∃ v, (results fn a'.tmps).run P w' = .ok v w' ∧ _
    obtain ⟨v, k1, k2, k3⟩ := results_run hR' hrs hok
    have hle : Le s ⟨s.tm, lookH hout, k, s.N⟩ := ⟨fun _ => .inl rfl, fun id => by
      rcases lookH_or hout id with ⟨p, h1, rfl, h3⟩ | h1
      · exact .inl (by show lookH hout p.1 = _; rw [h3, hall.mem p h1])
      · exact .inr h1, hk, rfl⟩
    obtain ⟨G₂, hE, hR₂⟩ := hR'.leE hle
    exact ⟨v, k1, v, G₂, rfl, hR'.keep, hR₂.ext, hR₂.heap, Rd.mono hE _ _ k3 k2, gl_mono hk _ k3, hR₂.fr⟩
end
end Go.Proofs.YtbmmdkbinlnogaaDoor.Aw
