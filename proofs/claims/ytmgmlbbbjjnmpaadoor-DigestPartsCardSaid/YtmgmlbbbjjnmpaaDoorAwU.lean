/-
  THE ABSTRACT WALK, part U: an object of the call's own never changes any more from here on (a step that nothing does).
-/
import Derived.Test.YtmgmlbbbjjnmpaaDoorAwV
namespace Go.Proofs.YtmgmlbbbjjnmpaaDoor.Aw
open Go
set_option linter.unusedSimpArgs false
set_option linter.unusedVariables false
set_option linter.unusedSimpArgs false
set_option linter.unusedVariables false

/-- How a value reads once one object never changes any more. -/
def fzo (id g : Nat) (nl : Bool) (cells : List AV) : AV → AV
  | .own i k es lo n => if i = id ∧ k = g then (if lo + n * esz es ≤ cells.length then .sl nl es (chunks es n (cells.drop lo)) else .junk) else .own i k es lo n
  | .op i k off => if i = id ∧ k = g then .fp (.agg cells) off else .op i k off
  | .agg xs => .agg (fzoL id g nl cells xs)
  | .tup xs => .tup (fzoL id g nl cells xs)
  | x => x
where fzoL (id g : Nat) (nl : Bool) (cells : List AV) : List AV → List AV
  | [] => []
  | x :: xs => fzo id g nl cells x :: fzoL id g nl cells xs

def AO.fzo (id g : Nat) (nl : Bool) (cells : List AV) : AO → AO
  | .row nl' cs => .row nl' (Aw.fzo.fzoL id g nl cells cs)

/-- One object counted among what never changes any more. -/
def G1 (G : Gh) (id g : Nat) : Gh := ⟨fun b => G.S b ∨ G.ob id g = some (some b), fun i k => if i = id then none else G.ob i k⟩
theorem ext_G1 {c : Nat} (G : Gh) (w : World) (id g : Nat) : Ext c G w (G1 G id g) w :=
  ⟨fun _ h => .inl h, fun _ _ => rfl, fun _ _ h => h, fun i k ob _ h => by simp only [G1] at h; split at h <;> simp_all⟩

section
variable {G : Gh} {w : World} {c id g : Nat} {nl : Bool} {cells : List AV} {M : Nat → Prop} {hp : Hp}
mutual
theorem fzo_sound (hH : Heap c M G hp w) (hid : hp id = some (g, .row nl cells)) (hfree : AV.free.freeL cells = true) : ∀ (x : AV) (v : Value), x.gl c → Rd G w x v → Rd (G1 G id g) w (fzo id g nl cells x) v
  | .junk, _, _, _ => by simp [fzo, Rd]
  | .sc u, v, _, hr => by simpa [fzo, Rd] using hr
  | .agg xs, v, hg, hr => by
    simp only [Rd, fzo] at hr ⊢
    obtain ⟨cs, rfl, hr, h1⟩ := hr
    exact ⟨cs, rfl, fzoL_sound hH hid hfree xs cs (by simpa [AV.gl] using hg) hr, h1⟩
  | .tup xs, v, hg, hr => by
    simp only [Rd, fzo] at hr ⊢
    obtain ⟨cs, rfl, hr⟩ := hr
    exact ⟨cs, rfl, fzoL_sound hH hid hfree xs cs (by simpa [AV.gl] using hg) hr⟩
  | .sl nl es xs, v, hg, hr => by
    simp only [fzo]
    exact Rd.mono (ext_G1 G w id g) _ v hg hr
  | .fp y off, v, hg, hr => by
    simp only [fzo]
    exact Rd.mono (ext_G1 G w id g) _ v hg hr
  | .own i k es lo n, v, hg, hr => by
    simp only [fzo]
    by_cases e : i = id ∧ k = g
    · obtain ⟨rfl, rfl⟩ := e
      rw [if_pos ⟨rfl, rfl⟩]
      split
      · rename_i hlen
        obtain ⟨ob, hob, hnl, hnil, hrow⟩ := hH.row _ _ _ _ hid
        simp only [Rd] at hr
        have hr := hr.2 _ hob
        cases ob with
        | none =>
          obtain ⟨rfl, rfl, rfl⟩ := hr
          simp only [Rd]
          refine ⟨none, 0, 0, [], rfl, rfl, Nat.le_refl _, ?_, by simp [hnl], fun _ => rfl, fun a ha => by simp at ha⟩
          cases es <;> simp [chunks, RdL]
        | some b =>
          obtain ⟨cap, o, E, kk, rfl, q1, q2, q3, q4⟩ := hr
          obtain ⟨_, _, vs, cs, E', hb, hvs, hcs, h1⟩ := hrow b rfl
          have hl := hvs.length
          have hle : n * esz es ≤ (vs.drop lo).length := by simp; omega
          have hvs' := RdL.mono (ext_G1 G w i k) _ _ (glL_of_free c _ hfree) hvs
          simp only [Rd]
          refine ⟨some ⟨b, o, none⟩, n, cap, chunksV es n (vs.drop lo), rfl, (length_chunksV _ _ _ hle).symm, q1, (hvs'.drop lo).chunks (fun u hu => h1 u (List.mem_of_mem_drop hu)), ?_, by simp, ?_⟩
          · constructor
            · intro h; have := hnl.1 h; simp at this
            · intro h; simp at h
          · intro a ha _
            simp at ha
            subst ha
            refine ⟨rfl, .inr hob, fun i' v hv => ?_⟩
            obtain ⟨a1, a2, a3⟩ := chunksV_get (fun v hv => h1 v (List.mem_of_mem_drop hv)) hle hv
            refine ⟨a2, fun j u hu => ?_⟩
            have e : o = lo := by rcases q2 with q2 | q2 <;> omega
            subst e
            rw [a3, List.getElem?_take] at hu
            split at hu
            · have : vs[o + (i' * esz es + j)]? = some u := by simpa [Nat.add_assoc] using hu
              have := hcs _ _ this
              simp only [World.cell?, hb]
              simpa [Nat.add_assoc] using this
            · simp at hu
      · simp [Rd]
    · rw [if_neg e]
      exact Rd.mono (ext_G1 G w id g) _ v hg hr
  | .op i k off, v, hg, hr => by
    simp only [fzo]
    by_cases e : i = id ∧ k = g
    · obtain ⟨rfl, rfl⟩ := e
      rw [if_pos ⟨rfl, rfl⟩]
      obtain ⟨ob, hob, hnl, hnil, hrow⟩ := hH.row _ _ _ _ hid
      simp only [Rd] at hr
      obtain ⟨b, rfl, rfl⟩ := hr.2 _ hob
      obtain ⟨_, _, vs, cs, E', hb, hvs, hcs, h1⟩ := hrow b rfl
      have hvs' := RdL.mono (ext_G1 G w i k) _ _ (glL_of_free c _ hfree) hvs
      simp only [Rd]
      refine ⟨.agg vs.toArray, b, 0, ⟨vs, rfl, hvs', h1⟩, by simp, .inr hob, fun j u hu => ?_⟩
      simp [Value.cells] at hu
      have := hcs _ _ hu
      simp only [World.cell?, hb]
      simpa using this
    · rw [if_neg e]
      exact Rd.mono (ext_G1 G w id g) _ v hg hr
theorem fzoL_sound (hH : Heap c M G hp w) (hid : hp id = some (g, .row nl cells)) (hfree : AV.free.freeL cells = true) : ∀ (xs : List AV) (vs : List Value), AV.gl.glL c xs → RdL G w xs vs → RdL (G1 G id g) w (fzo.fzoL id g nl cells xs) vs
  | [], vs, _, hr => by simpa [fzo.fzoL, RdL] using hr
  | x :: xs, vs, hg, hr => by
    simp only [fzo.fzoL, RdL] at hr ⊢
    obtain ⟨v, r, rfl, h1, h2⟩ := hr
    simp only [AV.gl.glL] at hg
    exact ⟨v, r, rfl, fzo_sound hH hid hfree x v hg.1 h1, fzoL_sound hH hid hfree xs r hg.2 h2⟩
end
mutual
theorem fzo_gl (hfree : AV.free.freeL cells = true) : ∀ x : AV, x.gl c → (fzo id g nl cells x).gl c
  | .junk, _ => by simp [fzo, AV.gl]
  | .sc _, _ => by simp [fzo, AV.gl]
  | .sl _ _ _, h => h
  | .fp _ _, h => h
  | .agg xs, h => by simp only [AV.gl, fzo] at h ⊢; exact fzoL_gl hfree xs h
  | .tup xs, h => by simp only [AV.gl, fzo] at h ⊢; exact fzoL_gl hfree xs h
  | .own i k es lo n, h => by
    simp only [fzo]
    split
    · split
      · simp only [AV.gl]
        refine glL_chunks (glL_drop (glL_of_free c _ hfree))
      · simp [AV.gl]
    · exact h
  | .op i k off, h => by
    simp only [fzo]
    split
    · simp only [AV.gl]
      exact glL_of_free c _ hfree
    · exact h
theorem fzoL_gl (hfree : AV.free.freeL cells = true) : ∀ xs : List AV, AV.gl.glL c xs → AV.gl.glL c (fzo.fzoL id g nl cells xs)
  | [], _ => by simp [fzo.fzoL, AV.gl.glL]
  | x :: xs, h => by simp only [AV.gl.glL, fzo.fzoL] at h ⊢; exact ⟨fzo_gl hfree x h.1, fzoL_gl hfree xs h.2⟩
end
mutual
theorem fzo_free : ∀ x : AV, x.free = true → fzo id g nl cells x = x
  | .junk, _ => rfl
  | .sc _, _ => rfl
  | .sl _ _ _, _ => rfl
  | .fp _ _, _ => rfl
  | .agg xs, h => by simp only [AV.free, fzo] at h ⊢; rw [fzoL_free xs h]
  | .tup xs, h => by simp only [AV.free, fzo] at h ⊢; rw [fzoL_free xs h]
  | .own _ _ _ _ _, h => by simp [AV.free] at h
  | .op _ _ _, h => by simp [AV.free] at h
theorem fzoL_free : ∀ xs : List AV, AV.free.freeL xs = true → fzo.fzoL id g nl cells xs = xs
  | [], _ => rfl
  | x :: xs, h => by simp only [AV.free.freeL, Bool.and_eq_true, fzo.fzoL] at h ⊢; rw [fzo_free x h.1, fzoL_free xs h.2]
end
end

def fzH (id g : Nat) (nl : Bool) (cells : List AV) (hp : Hp) : Hp := fun i => if i = id then none else match hp i with
  | some (k, o) => some (k, o.fzo id g nl cells)
  | none => none

/-- FROM HERE ON AN OBJECT NEVER CHANGES ANY MORE. -/
theorem SWp.frzo {P : Program} [Tabs P] {Q : Ex → ASt → Prop} {st : ASt} {c : SCode} (id g : Nat) {nl : Bool} {cells : List AV} (hid : st.hp id = some (g, .row nl cells)) (hfree : AV.free.freeL cells = true)
    (h : SWp P c Q ⟨fun t => fzo id g nl cells (st.tm t), fzH id g nl cells st.hp, st.gc, st.N⟩) : SWp P c Q st := by
  intro hm code hc w0 M Z G a w hR
  have hH := hR.heap
  have one : ∀ b, G.ob id g = some (some b) → (w0.heap.size ≤ b ∨ M b) ∧ b < w.heap.size := fun b hb => by
    obtain ⟨⟨nl', cells'⟩, ho⟩ := hH.live _ _ _ hb
    obtain ⟨ob, k1, _, _, k4⟩ := hH.row _ _ _ _ ho
    rw [hb] at k1; cases k1
    obtain ⟨_, q2, _, _, _, q3, _⟩ := k4 b rfl
    exact ⟨q2, lt_of_some q3⟩
  refine h hm code hc w0 M Z (G1 G id g) a w ⟨hR.keep, ⟨?_, ?_, ?_, ?_, ?_⟩, hR.size, ?_, ?_, hR.defers, ?_, ⟨fun b hb => .inl (hR.ext.S b hb), hR.ext.cells, hR.ext.shape, ?_⟩, hR.lc, hR.lc1, hR.tabs.mono (fun _ h => .inl h) (fun _ _ => rfl)⟩
  · rintro b (hb | hb)
    · exact hH.lt b hb
    · exact (one b hb).2
  · intro i k ob ho
    simp only [G1] at ho
    split at ho
    · simp at ho
    · rename_i e
      obtain ⟨o, h1⟩ := hH.live _ _ _ ho
      exact ⟨o.fzo id g nl cells, by simp only [fzH]; rw [if_neg e, h1]⟩
  · intro i k nl' cells' ho
    simp only [fzH] at ho
    split at ho
    · simp at ho
    · cases hx : st.hp i with
      | none => rw [hx] at ho; simp at ho
      | some p =>
        obtain ⟨k', nl'', cells''⟩ := p
        rw [hx] at ho
        simp only [AO.fzo, Option.some.injEq, Prod.mk.injEq, AO.row.injEq] at ho
        obtain ⟨rfl, rfl, rfl⟩ := ho
        obtain ⟨q1, q2⟩ := hH.gl _ _ _ _ hx
        exact ⟨q1, fzoL_gl hfree _ q2⟩
  · intro i k i' k' b h1 h2
    simp only [G1] at h1 h2
    split at h1
    · simp at h1
    · split at h2
      · simp at h2
      · exact hH.inj _ _ _ _ _ h1 h2
  · intro i k nl' cells' ho
    simp only [fzH] at ho
    split at ho
    · simp at ho
    · rename_i e
      cases hx : st.hp i with
      | none => rw [hx] at ho; simp at ho
      | some p =>
        obtain ⟨k', nl'', cells''⟩ := p
        rw [hx] at ho
        simp only [AO.fzo, Option.some.injEq, Prod.mk.injEq, AO.row.injEq] at ho
        obtain ⟨rfl, rfl, rfl⟩ := ho
        obtain ⟨ob, k1, k2, k3, k4⟩ := hH.row _ _ _ _ hx
        refine ⟨ob, by simp [G1, e, k1], k2, fun e => by rw [k3 e]; rfl, fun b hb => ?_⟩
        obtain ⟨q1, q2, us, cs, E, q3, q4, q5, q6⟩ := k4 b hb
        refine ⟨?_, q2, us, cs, E, q3, fzoL_sound hH hid hfree _ _ (hH.gl _ _ _ _ hx).2 q4, q5, q6⟩
        rintro (h | h)
        · exact q1 h
        · exact e (hH.inj _ _ _ _ _ (by rw [k1, hb]) h)
  · intro t
    exact fzo_sound hH hid hfree _ _ (hR.gl t) (hR.tm t)
  · intro t
    exact fzo_gl hfree _ (hR.gl t)
  · rintro b (hb | hb)
    · exact hR.fr b hb
    · exact .inr (one b hb).1
  · intro i k ob hg ho
    simp only [G1] at ho
    split at ho
    · simp at ho
    · exact hR.ext.ob _ _ _ hg ho

/-! ### A nil slice that lies in an object is taken for an object of the call's own -/
theorem heap_recell {G : Gh} {w : World} {c id g : Nat} {nl : Bool} {cells cells' : List AV} {M : Nat → Prop} {hp : Hp} (hH : Heap c M G hp w) (hid : hp id = some (g, .row nl cells)) (hgl : AV.gl.glL c cells') (hnil : cells = [] → cells' = [])
    (hrd : ∀ vs, RdL G w cells vs → RdL G w cells' vs) : Heap c M G (updH hp id (some (g, .row nl cells'))) w := by
  refine ⟨hH.lt, ?_, ?_, hH.inj, ?_⟩
  · intro i k ob ho
    obtain ⟨o, h1⟩ := hH.live _ _ _ ho
    unfold updH
    by_cases e : i = id
    · subst e
      rw [hid] at h1
      cases h1
      rw [if_pos rfl]; exact ⟨_, rfl⟩
    · rw [if_neg e]; exact ⟨o, h1⟩
  · intro i k nl' cs ho
    unfold updH at ho
    by_cases e : i = id
    · subst e
      rw [if_pos rfl] at ho
      simp only [Option.some.injEq, Prod.mk.injEq, AO.row.injEq] at ho
      obtain ⟨rfl, rfl, rfl⟩ := ho
      exact ⟨(hH.gl _ _ _ _ hid).1, hgl⟩
    · rw [if_neg e] at ho; exact hH.gl _ _ _ _ ho
  · intro i k nl' cs ho
    unfold updH at ho
    by_cases e : i = id
    · subst e
      rw [if_pos rfl] at ho
      simp only [Option.some.injEq, Prod.mk.injEq, AO.row.injEq] at ho
      obtain ⟨rfl, rfl, rfl⟩ := ho
      obtain ⟨ob, k1, k2, k3, k4⟩ := hH.row _ _ _ _ hid
      refine ⟨ob, k1, k2, fun e => hnil (k3 e), fun b hb => ?_⟩
      obtain ⟨q1, q2, us, cs, E, q3, q4, q5, q6⟩ := k4 b hb
      exact ⟨q1, q2, us, cs, E, q3, hrd _ q4, q5, q6⟩
    · rw [if_neg e] at ho; exact hH.row _ _ _ _ ho

theorem SWp.adoptC {P : Program} [Tabs P] {Q : Ex → ASt → Prop} {st : ASt} {c : SCode} (id g j d : Nat) (es : Option Nat) {nl : Bool} {cells : List AV} (hid : st.hp id = some (g, .row nl cells)) (hj : cells[j]? = some (.sc (.slice none 0 0))) (hd : d ≠ id)
    (h : SWp P c Q ⟨st.tm, updH (updH st.hp d (some (st.gc, .row true []))) id (some (g, .row nl (cells.set j (.own d st.gc es 0 0)))), st.gc + 1, st.N⟩) : SWp P c Q st := by
  intro hm code hc w0 M Z G a w hR
  obtain ⟨G', hE, hH', hx, hg, _, _, hS⟩ := res_nil hR.heap d es
  have hid' : updH st.hp d (some (st.gc, .row true [])) id = some (g, .row nl cells) := by
    unfold updH; rw [if_neg (fun e => hd e.symm)]; exact hid
  have hgl := (hR.heap.gl _ _ _ _ hid).2
  have hjl : j < cells.length := (List.getElem?_eq_some_iff.1 hj).1
  have hH2 := heap_recell hH' hid' (cells' := cells.set j (.own d st.gc es 0 0)) (by
      rw [glL_iff]
      intro x hx'
      rcases List.mem_or_eq_of_mem_set hx' with h | rfl
      · exact gl_mono (Nat.le_succ _) _ (glL_iff.1 hgl x h)
      · simp [AV.gl])
    (by intro e; subst e; simp at hjl) (by
      intro vs hvs
      have hv : vs[j]? = some (.slice none 0 0) := by
        obtain ⟨v, h1, h2⟩ := hvs.get j _ hj
        have := h2.sc_inv; subst this; exact h1
      have e : vs = vs.set j (.slice none 0 0) := by
        apply List.ext_getElem?
        intro i
        rw [List.getElem?_set]
        split
        · rename_i e; subst e
          split
          · exact hv
          · rename_i hn; rw [List.getElem?_eq_none (by omega)] at hv; simp at hv
        · rfl
      rw [e]
      exact hvs.set hx)
  refine h hm code hc w0 M Z G' a w ⟨hR.keep, hH2, hR.size, ?_, ?_, hR.defers, ?_, hR.ext.trans hR.lc hE, Nat.le_trans hR.lc (Nat.le_succ _), hR.lc1, hR.tabs.mono hE.S hE.cells⟩
  · intro u
    exact Rd.mono hE _ _ (hR.gl u) (hR.tm u)
  · intro u
    exact gl_mono (Nat.le_succ _) _ (hR.gl u)
  · intro b hb
    rcases hS b hb with h | h
    · exact hR.fr b h
    · exact .inr (h.elim (fun h => .inl (Nat.le_trans hR.keep.size h)) (fun h => h))

/-! ### An object gets a new mark -/
def rgn (id g c : Nat) : Nat → Nat → Nat × Nat := fun i k => (i, if i = id then (if k = g then c else if k = c then g else k) else k)
theorem rgn_eq {id g c i k : Nat} : rgn id g c i k = (i, if i = id then (if k = g then c else if k = c then g else k) else k) := rfl
def rgH (id g c : Nat) (hp : Hp) : Hp := fun i => match hp i with
  | some (k, o) => some ((rgn id g c i k).2, o.ren (rgn id g c))
  | none => none
theorem rgH_at {id g c i : Nat} {hp : Hp} : rgH id g c hp i = match hp i with
  | some (k, o) => some ((rgn id g c i k).2, o.ren (rgn id g c))
  | none => none := rfl
theorem rgn_rgn (id g c i k : Nat) : (rgn id g c i (rgn id g c i k).2).2 = k := by
  simp only [rgn]
  by_cases e : i = id
  · simp only [if_pos e]
    by_cases h : k = g
    · subst h; simp only [if_true]; by_cases h' : c = k
      · simp [h']
      · simp [h']
    · by_cases h' : k = c
      · subst h'; simp [h]
      · simp [h, h']
  · simp [e]
theorem SWp.renew {P : Program} [Tabs P] {Q : Ex → ASt → Prop} {st : ASt} {c : SCode} (id g : Nat) {o : AO} (hid : st.hp id = some (g, o))
    (h : SWp P c Q ⟨fun t => ren (rgn id g st.gc) (st.tm t), rgH id g st.gc st.hp, st.gc + 1, st.N⟩) : SWp P c Q st := by
  intro hm code hc w0 M Z G a w hR
  have hH := hR.heap
  have hgc : g < st.gc := by cases o with | row nl cells => exact (hH.gl _ _ _ _ hid).1
  have hlt : ∀ i k, k < st.gc → (rgn id g st.gc i k).2 < st.gc + 1 := by
    intro i k hk
    simp only [rgn]
    split
    · split
      · omega
      · split <;> omega
    · omega
  have hob : ∀ i k ob, (⟨G.S, fun i k => G.ob i (rgn id g st.gc i k).2⟩ : Gh).ob (rgn id g st.gc i k).1 (rgn id g st.gc i k).2 = some ob → G.ob i k = some ob := fun i k ob ho => by
    have : (rgn id g st.gc i k).1 = i := rfl
    rw [this] at ho
    simp only [rgn_rgn] at ho
    exact ho
  have hS : false = false → ∀ b, G.S b → G.S b := fun _ _ h => h
  refine h hm code hc w0 M Z ⟨G.S, fun i k => G.ob i (rgn id g st.gc i k).2⟩ a w ⟨hR.keep, ⟨hH.lt, ?_, ?_, ?_, ?_⟩, hR.size, ?_, ?_, hR.defers, hR.fr, ⟨hR.ext.S, hR.ext.cells, hR.ext.shape, ?_⟩, Nat.le_trans hR.lc (Nat.le_succ _), hR.lc1, hR.tabs⟩
  · intro i k ob ho
    obtain ⟨o', h1⟩ := hH.live _ _ _ ho
    refine ⟨o'.ren (rgn id g st.gc), ?_⟩
    simp only [rgH]; rw [h1]; simp only [rgn_rgn]
  · intro i k nl cells ho
    simp only [rgH] at ho
    cases hx : st.hp i with
    | none => rw [hx] at ho; simp at ho
    | some p =>
      obtain ⟨k', nl', cells'⟩ := p
      rw [hx] at ho
      simp only [AO.ren, Option.some.injEq, Prod.mk.injEq, AO.row.injEq] at ho
      obtain ⟨rfl, rfl, rfl⟩ := ho
      obtain ⟨q1, q2⟩ := hH.gl _ _ _ _ hx
      exact ⟨hlt _ _ q1, glL_ren hlt _ q2⟩
  · intro i k i' k' b h1 h2
    exact hH.inj _ _ _ _ _ h1 h2
  · intro i k nl cells ho
    simp only [rgH] at ho
    cases hx : st.hp i with
    | none => rw [hx] at ho; simp at ho
    | some p =>
      obtain ⟨k', nl', cells'⟩ := p
      rw [hx] at ho
      simp only [AO.ren, Option.some.injEq, Prod.mk.injEq, AO.row.injEq] at ho
      obtain ⟨rfl, rfl, rfl⟩ := ho
      obtain ⟨ob, k1, k2, k3, k4⟩ := hH.row _ _ _ _ hx
      refine ⟨ob, by simp only [rgn_rgn]; exact k1, k2, fun e => by rw [k3 e]; rfl, fun b hb => ?_⟩
      obtain ⟨q1, q2, us, cs, E, q3, q4, q5, q6⟩ := k4 b hb
      exact ⟨q1, q2, us, cs, E, q3, RdL.ren (G := G) (G' := ⟨G.S, fun i k => G.ob i (rgn id g st.gc i k).2⟩) (ρ := rgn id g st.gc) (B := false) hS hob _ _ (by simp) q4, q5, q6⟩
  · intro t
    exact Rd.ren (G := G) (G' := ⟨G.S, fun i k => G.ob i (rgn id g st.gc i k).2⟩) (ρ := rgn id g st.gc) (B := false) hS hob _ _ (by simp) (hR.tm t)
  · intro t
    exact gl_ren hlt _ (hR.gl t)
  · intro i k ob hk ho
    have hl := hR.lc
    simp only [rgn] at ho
    by_cases e : i = id
    · rw [if_pos e] at ho
      by_cases e1 : k = g
      · rw [if_pos e1] at ho
        obtain ⟨⟨nl, cells⟩, h1⟩ := hH.live _ _ _ ho
        have := (hH.gl _ _ _ _ h1).1
        omega
      · rw [if_neg e1, if_neg (by omega)] at ho
        exact hR.ext.ob _ _ _ hk ho
    · rw [if_neg e] at ho
      exact hR.ext.ob _ _ _ hk ho

section
variable {id g : Nat} {nl : Bool} {cells : List AV}
theorem fzo_sc {v : Value} : fzo id g nl cells (.sc v) = .sc v := rfl
theorem fzo_w32 {c : UInt32} : fzo id g nl cells (w32 c) = w32 c := rfl
theorem fzo_junk : fzo id g nl cells .junk = .junk := rfl
theorem fzo_sl {n : Bool} {es : Option Nat} {xs : List AV} : fzo id g nl cells (.sl n es xs) = .sl n es xs := rfl
theorem fzo_fp {y : AV} {o : Nat} : fzo id g nl cells (.fp y o) = .fp y o := rfl
theorem fzo_agg {xs : List AV} : fzo id g nl cells (.agg xs) = .agg (fzo.fzoL id g nl cells xs) := rfl
theorem fzo_tup {xs : List AV} : fzo id g nl cells (.tup xs) = .tup (fzo.fzoL id g nl cells xs) := rfl
theorem fzo_own {i k lo n : Nat} {es : Option Nat} : fzo id g nl cells (.own i k es lo n) = if i = id ∧ k = g then (if lo + n * esz es ≤ cells.length then .sl nl es (chunks es n (cells.drop lo)) else .junk) else .own i k es lo n := rfl
theorem fzo_op {i k off : Nat} : fzo id g nl cells (.op i k off) = if i = id ∧ k = g then .fp (.agg cells) off else .op i k off := rfl
theorem fzoL_nil : fzo.fzoL id g nl cells [] = [] := rfl
theorem fzoL_cons {x : AV} {xs : List AV} : fzo.fzoL id g nl cells (x :: xs) = fzo id g nl cells x :: fzo.fzoL id g nl cells xs := rfl
theorem fzoL_u8 {l : List UInt8} : fzo.fzoL id g nl cells (l.map u8) = l.map u8 := fzoL_free _ free_u8
theorem fzoL_32 {l : List UInt32} : fzo.fzoL id g nl cells (l.map w32) = l.map w32 := fzoL_free _ free_map32
theorem fzH_at {hp : Hp} {i : Nat} : fzH id g nl cells hp i = if i = id then none else match hp i with
  | some (k, o) => some (k, o.fzo id g nl cells)
  | none => none := rfl
theorem AO_fzo {n : Bool} {cs : List AV} : (AO.row n cs).fzo id g nl cells = .row n (fzo.fzoL id g nl cells cs) := rfl
end

/-- A contract that hands new objects over, without any handed in: what they hold, taken for frozen, is a pure answer. -/
theorem HCon.con {P : Program} [Tabs P] {f : Nat} {ins : List AV} {out : AV} {hout : List (Nat × Nat × AO)} {k : Nat} (h : HCon P f ins [] out hout k) (out' : AV) (ho : frz (lookH hout) out = out') (hfree : out'.free = true) : Con P f ins out' := by
  intro w S vs htab hlt hrd
  have hH : Heap 1 (fun _ => False) ⟨S, fun _ _ => none⟩ (hin0 []) w := by
    refine ⟨hlt, ?_, ?_, ?_, ?_⟩
    · intro id g ob ho; simp at ho
    · intro id g nl cells ho; simp [hin0] at ho
    · intro id g id' g' b ho; simp at ho
    · intro id g nl cells ho; simp [hin0] at ho
  refine (h.2.2 w ⟨S, fun _ _ => none⟩ (fun _ => False) vs htab hH hrd).mono ?_
  rintro e w' ⟨v, G', rfl, hk, hE, hH', hr, hg, hS⟩
  refine ⟨v, (GF G').S, rfl, hk, fun b hb => .inl (hE.S b hb), ?_, ?_, hfree, ?_⟩
  · rintro b (hb | ⟨id, g, hb⟩)
    · rcases hS b hb with h | h | h
      · exact .inl h
      · exact .inr h
      · exact h.elim
    · obtain ⟨⟨nl, cells⟩, ho⟩ := hH'.live _ _ _ hb
      obtain ⟨ob, k1, _, _, k4⟩ := hH'.row _ _ _ _ ho
      rw [hb] at k1; cases k1
      obtain ⟨_, q2, _⟩ := k4 b rfl
      rcases q2 with q | q
      · exact .inr q
      · exact q.elim
  · rintro b (hb | ⟨id, g, hb⟩)
    · exact hH'.lt b hb
    · obtain ⟨⟨nl, cells⟩, ho⟩ := hH'.live _ _ _ hb
      obtain ⟨ob, k1, _, _, k4⟩ := hH'.row _ _ _ _ ho
      rw [hb] at k1; cases k1
      obtain ⟨_, _, _, _, _, q3, _⟩ := k4 b rfl
      exact lt_of_some q3
  · have := frz_sound hH' _ _ hg hr
    rw [ho] at this
    exact this
end Go.Proofs.YtmgmlbbbjjnmpaaDoor.Aw
