/- Parts of the proofs of Eo. -/
import Derived.Test.YtbmmdkbinlnogaaDoorQEoAQ
namespace Go.Proofs.YtbmmdkbinlnogaaDoor.Aw
open Go
set_option linter.unusedSimpArgs false
set_option linter.unusedVariables false
set_option linter.unusedSectionVars false
section
variable {P : Program}
theorem operPut {o : Oper} {a : Act} {w : World} {K : Act → World → Prop} {Q : Exit → Act → World → Prop} (hh : o.wp P a w K Q) : o.wp P a w (fun a' w' => K a' w' ∧ ∃ x, a'.tmps = (a.put o.dst x).tmps) Q := by
  unfold Oper.wp at *
  generalize (execOp a.eval o).run P w = r at *
  cases r with
  | ok n w' =>
    cases n <;> simp only [Oper.upon] at hh ⊢ <;>
      first
        | exact ⟨hh, _, rfl⟩
        | exact ⟨hh, undef, by cases o.dst <;> rfl⟩
        | exact Calls.mono hh (fun e w'' he => by cases e <;> first | exact ⟨he, _, rfl⟩ | exact he)
        | exact Rows.mono hh (fun _ _ he => ⟨he, _, rfl⟩)
  | halt x w' => cases x <;> simp only [Oper.upon] at hh ⊢ <;> exact hh
theorem wpOpPut {ops : Array Oper} {i : Nat} {o : Oper} {a : Act} {w : World} {K : Act → World → Prop} {Q : Exit → Act → World → Prop} (ho : ops[i]? = some o) (hh : wpOp P ops Q i K a w) :
    wpOp P ops Q i (fun a' w' => K a' w' ∧ ∃ x, a'.tmps = (a.put o.dst x).tmps) a w := by
  simp only [wpOp, ho] at hh ⊢
  split
  · rename_i h; rw [if_pos h] at hh; exact hh.imp operPut id
  · rename_i h; rw [if_neg h] at hh; exact ⟨hh, _, rfl⟩
theorem any_inv {ops : Array Oper} {Q : Exit → Act → World → Prop} (J : (Nat → Prop) → Act → World → Prop) (hb : ∀ i, i < ops.size → ∀ k ∈ binders ops i, k < i)
    (hc : ∀ D D' a w, (∀ k, k < ops.size → (D k ↔ D' k)) → J D a w → J D' a w)
    (hstep : ∀ D a w i o, ops[i]? = some o → J D a w → ¬ D i → (∀ k ∈ binders ops i, D k) → wpOp P ops Q i (J fun k => k = i ∨ D k) a w)
    (hQ : ∀ D a w, (∀ i, i < ops.size → D i) → J D a w → Q .normal a w) :
    ∀ (fuel : Nat) (listed : Array Bool) (a : Act) (w : World), listed.size = ops.size → ((List.range ops.size).filter fun i => !listed.getD i false).length ≤ fuel →
      J (fun i => listed.getD i false = true) a w → wpAny P .any ops Q fuel listed a w := by
  have hbind : ∀ (i : Nat) (o : Oper), ops[i]? = some o → ∀ k, k ∈ binders ops i ↔ ∃ e ∈ o.after, Region.binds .any e = true ∧ e.on = k := by
    intro i o hi k
    simp [binders, hi, and_assoc]
  have hend : ∀ (listed : Array Bool) (a : Act) (w : World), listed.size = ops.size → J (fun i => listed.getD i false = true) a w → Region.ready .any ops listed = [] → Q .normal a w := by
    intro listed a w hls hm hr
    have hall : ∀ n i, i < n → i < ops.size → listed.getD i false = true := by
      intro n
      induction n with
      | zero => intro i hi; omega
      | succ n ih =>
        intro i hi hio
        by_cases hd : listed.getD i false = true
        · exact hd
        · exfalso
          have ho : ops[i]? = some ops[i] := Array.getElem?_eq_getElem hio
          have : i ∈ Region.ready .any ops listed := by
            rw [mem_ready]
            refine ⟨?_, ops[i], ho, fun e he hbb => ?_⟩
            · have hli : i < listed.size := by omega
              rw [Array.getD_eq_getD_getElem?, Array.getElem?_eq_getElem hli] at hd ⊢
              simpa using hd
            · have hk : e.on ∈ binders ops i := (hbind i _ ho _).2 ⟨e, he, hbb, rfl⟩
              have := hb i hio _ hk
              exact ih _ (by omega) (by omega)
          rw [hr] at this
          simp at this
    exact hQ _ a w (fun i hi => hall (i + 1) i (by omega) hi) hm
  intro fuel
  induction fuel with
  | zero =>
    intro listed a w hls hcnt hm
    have hr : Region.ready .any ops listed = [] := by
      cases hrr : Region.ready .any ops listed with
      | nil => rfl
      | cons i l =>
        exfalso
        have hi : i ∈ Region.ready .any ops listed := by rw [hrr]; simp
        rw [mem_ready] at hi
        obtain ⟨h1, o, ho, _⟩ := hi
        have hio : i < ops.size := by
          rcases Nat.lt_or_ge i ops.size with h | h
          · exact h
          · rw [Array.getElem?_eq_none h] at ho; simp at ho
        have : i ∈ (List.range ops.size).filter fun i => !listed.getD i false := by
          rw [List.mem_filter]
          refine ⟨List.mem_range.2 hio, ?_⟩
          have hli : i < listed.size := by omega
          rw [Array.getD_eq_getD_getElem?, Array.getElem?_eq_getElem hli] at h1 ⊢
          simpa using h1
        have hl := List.length_pos_of_mem this
        omega
    exact ⟨hr, hend listed a w hls hm hr⟩
  | succ fuel ih =>
    intro listed a w hls hcnt hm
    refine ⟨fun hr => hend listed a w hls hm hr, fun i hi => ?_⟩
    rw [mem_ready] at hi
    obtain ⟨h1, o, ho, h2⟩ := hi
    have hio : i < ops.size := by
      rcases Nat.lt_or_ge i ops.size with h | h
      · exact h
      · rw [Array.getElem?_eq_none h] at ho; simp at ho
    have hli : i < listed.size := by omega
    have h1' : listed.getD i false = false := by
      rw [Array.getD_eq_getD_getElem?, Array.getElem?_eq_getElem hli] at h1 ⊢
      simpa using h1
    have := hstep _ a w i o ho hm (by rw [h1']; simp) (fun k hk => by
      obtain ⟨e, he, hbb, rfl⟩ := (hbind i o ho k).1 hk
      exact h2 e he hbb)
    refine wpOp_mono ?_ this
    intro a' w' hm'
    refine ih _ a' w' (by rw [Array.size_setIfInBounds]; exact hls) ?_ (hc _ _ a' w' ?_ hm')
    · have hsub : ((List.range ops.size).filter fun k => !(listed.setIfInBounds i true).getD k false).length < ((List.range ops.size).filter fun k => !listed.getD k false).length := by
        have e1 : (List.range ops.size).filter (fun k => !(listed.setIfInBounds i true).getD k false) = ((List.range ops.size).filter fun k => !listed.getD k false).filter fun k => k != i := by
          rw [List.filter_filter]
          refine List.filter_congr fun k hk => ?_
          have hkl : k < listed.size := by rw [hls]; exact List.mem_range.1 hk
          rw [getD_set hkl]
          by_cases e : i = k
          · subst e; simp
          · simp [e, Ne.symm e]
        rw [e1]
        have hmem : i ∈ (List.range ops.size).filter fun k => !listed.getD k false := by
          rw [List.mem_filter]; exact ⟨List.mem_range.2 hio, by rw [h1']; rfl⟩
        exact List.length_filter_lt_length_iff_exists.2 ⟨i, hmem, by simp⟩
      omega
    · intro k hk
      rw [getD_set (by rw [hls]; exact hk)]
      by_cases e : i = k
      · subst e; simp
      · simp [e, Ne.symm e]
end
section
variable {P : Program} [Tabs P] {w0 : World} {M : Nat → Prop} {Z : Beg} {G G' : Gh} {st st' : ASt} {a a' : Act} {w w' : World}
def Gh.reg (G : Gh) (b : Nat) : Prop := ∃ id g, G.ob id g = some (some b)
theorem R.reg (hR : R P w0 M Z G st a w) {b : Nat} (h : G.reg b) : w0.heap.size ≤ b ∨ M b := by
  obtain ⟨id, g, h⟩ := h
  obtain ⟨⟨nl, cells⟩, ho⟩ := hR.heap.live _ _ _ h
  obtain ⟨ob, k1, _, _, k4⟩ := hR.heap.row _ _ _ _ ho
  rw [h] at k1; cases k1
  exact (k4 b rfl).2.1
theorem R.rebase (hR : R P w0 M Z G st a w) : R P w G.reg ⟨G, Z.c, Z.defs, Z.lim⟩ G st a w :=
  ⟨Keep.refl _ _ _, ⟨hR.heap.lt, hR.heap.live, hR.heap.gl, hR.heap.inj, fun id g nl cells h => by
    obtain ⟨ob, h1, h2, h3, h4⟩ := hR.heap.row id g nl cells h
    refine ⟨ob, h1, h2, h3, fun b hb => ?_⟩
    obtain ⟨k1, _, k3⟩ := h4 b hb
    exact ⟨k1, .inr ⟨id, g, by rw [h1, hb]⟩, k3⟩⟩, hR.size, hR.tm, hR.gl, hR.defers, fun _ h => .inl h, Ext.refl _ _ _, hR.lc, hR.lc1, hR.tabs⟩
theorem R.unbase (hR : R P w0 M Z G st a w) (h : R P w G.reg ⟨G, Z.c, Z.defs, Z.lim⟩ G' st' a' w') : R P w0 M Z G' st' a' w' := by
  have hM : ∀ b, (w.heap.size ≤ b ∨ G.reg b) → (w0.heap.size ≤ b ∨ M b) := fun b hb => hb.elim (fun h => .inl (Nat.le_trans hR.keep.size h)) hR.reg
  refine ⟨hR.keep.trans (h.keep.mono hR.keep.size fun b hb hm => (hR.reg hm).elim (fun h => absurd h (by omega)) id), ⟨h.heap.lt, h.heap.live, h.heap.gl, h.heap.inj, fun id g nl cells hi => ?_⟩, h.size, h.tm, h.gl, h.defers, fun b hb => ?_, hR.ext.trans (Nat.le_refl _) h.ext, h.lc, hR.lc1, h.tabs⟩
  · obtain ⟨ob, h1, h2, h3, h4⟩ := h.heap.row id g nl cells hi
    refine ⟨ob, h1, h2, h3, fun b hb => ?_⟩
    obtain ⟨k1, k2, k3⟩ := h4 b hb
    exact ⟨k1, hM b k2, k3⟩
  · rcases h.fr b hb with h | h
    · exact hR.fr b h
    · exact .inr (hM b h)
theorem R.world (hR : R P w0 M Z G st a w) (hos : w'.os = w.os) (ht : w'.tape = w.tape) (hout : w'.output = w.output) (hsz : w.heap.size ≤ w'.heap.size) {nb : Nat} (hfr : ∀ b, b < w.heap.size → b ≠ nb → w'.heap[b]? = w.heap[b]?)
    (hsh : ∀ p, w.shape? nb = some p → w'.shape? nb = some p) (hS : ¬ G.S nb) (hreg : ¬ G.reg nb) (hnew : w0.heap.size ≤ nb) : R P w0 M Z G st a w' := by
  have hE : Ext st.gc G w G w' := ⟨fun _ h => h, fun b hb => hfr b (hR.heap.lt b hb) (fun e => hS (e ▸ hb)), fun b p hp => by
    by_cases e : b = nb
    · subst e; exact hsh p hp
    · have hb := lt_of_shape hp
      simpa only [World.shape?, hfr b hb e] using hp, fun _ _ _ _ h => h⟩
  refine ⟨⟨hos.trans hR.keep.os, ht.trans hR.keep.tape, hout.trans hR.keep.output, Nat.le_trans hR.keep.size hsz, fun k h1 h2 => by rw [hfr k (Nat.lt_of_lt_of_le h1 hR.keep.size) (by omega)]; exact hR.keep.block k h1 h2⟩, ⟨fun b hb => Nat.lt_of_lt_of_le (hR.heap.lt b hb) hsz, hR.heap.live, hR.heap.gl, hR.heap.inj, ?_⟩, hR.size, fun t => Rd.mono hE _ _ (hR.gl t) (hR.tm t), hR.gl, hR.defers, hR.fr, hR.ext.trans hR.lc hE, hR.lc, hR.lc1, hR.tabs.mono hE.S hE.cells⟩
  intro id g nl cells hid
  obtain ⟨ob, h1, h2, h3, h4⟩ := hR.heap.row _ _ _ _ hid
  refine ⟨ob, h1, h2, h3, fun b hb => ?_⟩
  obtain ⟨k1, k2, vs, k4, k3⟩ := h4 b hb
  exact ⟨k1, k2, vs, RdL.mono hE _ _ (hR.heap.gl _ _ _ _ hid).2 k4, by rw [hfr b k3.lt (fun e => hreg ⟨id, g, by rw [h1, hb, e]⟩)]; exact k3⟩
structure Pend (w0 : World) (G : Gh) (a : Act) (w : World) (d b : Nat) (vs : List Value) : Prop where
  tm : a.tmps.getD d undef = .pointer (some ⟨b, 0, none⟩)
  lt : b < w.heap.size
  new : w0.heap.size ≤ b
  S : ¬ G.S b
  reg : ¬ G.reg b
  row : ∃ cs E, w.heap[b]? = some (.cells cs E (0, 0)) ∧ cs.size = vs.length ∧ ∀ (j : Nat) (v : Value), vs[j]? = some v → cs[j]? = some v
  ones : ∀ v ∈ vs, v.oneCell' = true
theorem Pend.step {d b : Nat} {vs : List Value} (h : Pend w0 G a w d b vs) (hR' : R P w G.reg ⟨G, Z.c, Z.defs, Z.lim⟩ G' st' a' w') (ht : a'.tmps.getD d undef = a.tmps.getD d undef) : Pend w0 G' a' w' d b vs := by
  refine ⟨ht.trans h.tm, Nat.lt_of_lt_of_le h.lt hR'.keep.size, h.new, fun hs => ?_, fun hr => ?_, ?_, h.ones⟩
  · rcases hR'.fr b hs with h' | h' | h'
    · exact h.S h'
    · have := h.lt; omega
    · exact h.reg h'
  · rcases hR'.reg hr with h' | h'
    · have := h.lt; omega
    · exact h.reg h'
  · obtain ⟨cs, E, h1, h2⟩ := h.row
    exact ⟨cs, E, (hR'.keep.block b h.lt h.reg).trans h1, h2⟩
theorem R.adopt (hR : R P w0 M Z G st a w) {d b : Nat} {vs : List Value} (h : Pend w0 G a w d b vs) {cells : List AV} (hr : RdL G w cells vs) (hgl : AV.gl.glL st.gc cells) :
    R P w0 M Z (putG G d st.gc b) ⟨upd st.tm d (.op d st.gc 0), updH st.hp d (some (st.gc, .row false cells)), st.gc + 1, st.N⟩ a w := by
  have hH := hR.heap
  have hE : Ext st.gc G w (putG G d st.gc b) w := by
    refine ⟨fun _ h => h, fun _ _ => rfl, fun _ _ h => h, fun i k ob hk ho => ?_⟩
    simp only [putG] at ho
    split at ho
    · split at ho
      · omega
      · simp at ho
    · exact ho
  obtain ⟨cs, E, hrow, hcsz, hcs⟩ := h.row
  refine ⟨hR.keep, ⟨hH.lt, ?_, ?_, ?_, ?_⟩, hR.size, ?_, ?_, hR.defers, hR.fr, hR.ext.trans hR.lc hE, Nat.le_trans hR.lc (Nat.le_succ _), hR.lc1, hR.tabs.mono hE.S hE.cells⟩
  · intro i k ob ho
    simp only [putG] at ho
    simp only [updH]
    split at ho
    · rename_i e
      split at ho
      · rename_i e'
        subst e'
        rw [if_pos e]
        exact ⟨_, rfl⟩
      · simp at ho
    · rename_i e
      rw [if_neg e]
      exact hH.live _ _ _ ho
  · intro i k nl cells0 hi
    simp only [updH] at hi
    split at hi
    · simp at hi
      obtain ⟨rfl, rfl, rfl⟩ := hi
      exact ⟨Nat.lt_succ_self _, glL_mono (Nat.le_succ _) _ hgl⟩
    · obtain ⟨p, q⟩ := hH.gl _ _ _ _ hi
      exact ⟨Nat.lt_succ_of_lt p, glL_mono (Nat.le_succ _) _ q⟩
  · intro i k i' k' b' hi hi'
    simp only [putG] at hi hi'
    split at hi
    · rename_i e
      split at hi
      · cases hi
        split at hi'
        · rename_i e'; rw [e, e']
        · exact absurd ⟨_, _, hi'⟩ h.reg
      · simp at hi
    · split at hi'
      · split at hi'
        · cases hi'
          exact absurd ⟨_, _, hi⟩ h.reg
        · simp at hi'
      · exact hH.inj _ _ _ _ _ hi hi'
  · intro i k nl cells0 hi
    simp only [updH] at hi
    split at hi
    · rename_i e
      simp at hi
      obtain ⟨rfl, rfl, rfl⟩ := hi
      refine ⟨some b, by simp [putG, e], by simp, by simp, fun b' hb => ?_⟩
      cases hb
      exact ⟨h.S, .inl h.new, vs, RdL.mono hE _ _ hgl hr, Blk.cells hrow hcs h.ones⟩
    · rename_i e
      obtain ⟨ob, k1, k2, k3, k4⟩ := hH.row _ _ _ _ hi
      refine ⟨ob, by simp [putG, e, k1], k2, k3, fun b' hb => ?_⟩
      obtain ⟨q1, q2, vs', q4, q3⟩ := k4 b' hb
      exact ⟨q1, q2, vs', RdL.mono hE _ _ (hH.gl _ _ _ _ hi).2 q4, q3⟩
  · intro t
    simp only [upd]
    split
    · rename_i e
      rw [e, h.tm]
      exact rd_op_put ⟨(E, cs.size), by simp only [World.shape?, hrow]⟩
    · exact Rd.mono hE _ _ (hR.gl t) (hR.tm t)
  · intro t
    simp only [upd]
    split
    · simp [AV.gl]
    · exact gl_mono (Nat.le_succ _) _ (hR.gl t)
theorem Pend.adopted {d b : Nat} {vs : List Value} {d' b' g : Nat} (h : Pend w0 G a w d b vs) (hne : b ≠ b') : Pend w0 (putG G d' g b') a w d b vs := by
  refine ⟨h.tm, h.lt, h.new, h.S, ?_, h.row, h.ones⟩
  rintro ⟨i, k, ho⟩
  simp only [putG] at ho
  split at ho
  · split at ho
    · cases ho; exact hne rfl
    · simp at ho
  · exact h.reg ⟨i, k, ho⟩
def hid (ds : List Nat) (st : ASt) : ASt := ⟨fun t => if t ∈ ds then .junk else st.tm t, st.hp, st.gc, st.N⟩
theorem hid_put {ds : List Nat} {s : ASt} {d : Option Nat} {r : AV} (h : ∀ t, d = some t → t ∉ ds) : ASt.put (hid ds s) d r = hid ds (ASt.put s d r) := by
  cases d with
  | none => rfl
  | some d =>
    have := h d rfl
    simp only [ASt.put, hid, ASt.mk.injEq, and_true]
    funext t
    simp only [upd]
    by_cases e : t = d
    · subst e; simp [this]
    · simp [e]
theorem GStep.hid {ds : List Nat} {o : SOper} {K : ASt → Prop} (hr : ∀ t ∈ o.reads, t ∉ ds) (hd : ∀ t, o.dst = some t → t ∉ ds) (h : GStep P o K st) : GStep P o (fun s' => ∃ s, s' = hid ds s ∧ K s) (hid ds st) := by
  have hA : AStep P o.op o.dst st K → AStep P o.op o.dst (Aw.hid ds st) (fun s' => ∃ s, s' = Aw.hid ds s ∧ K s) := by
    intro h
    obtain ⟨st', ⟨r, hp', gc', hv', rfl⟩, hk⟩ := h.rel
    have he : ∀ x ∈ o.op.ops, ev P st x = ev P (Aw.hid ds st) x := ev_congr fun t ht => by
      simp only [Aw.hid]
      rw [if_neg (hr t (by simp [SOper.reads, ht]))]
    have hv'' : AVal P o.op (ev P (Aw.hid ds st)) st.hp st.gc (o.dst.getD 0) r hp' gc' := by
      rcases hv'.congr he (fun _ => rfl) (fun _ => ⟨rfl, rfl⟩) with ⟨_, h⟩ | ⟨_, rfl, rfl, h⟩ <;> exact h
    exact ARel.step ⟨r, hp', gc', hv'', rfl⟩ ⟨_, hid_put (s := ⟨st.tm, hp', gc', st.N⟩) hd, hk⟩
  unfold GStep at *
  split at h
  · exact hA h
  · rename_i g want hg
    obtain ⟨b, hb, h1, h2⟩ := h
    refine ⟨b, ?_, fun e => hA (h1 e), fun e => ⟨_, hid_put hd, h2 e⟩⟩
    simp only [Aw.hid]
    rw [if_neg (hr g (by simp [SOper.reads, hg]))]
    exact hb
structure Fr where
  d : Nat
  t : Nat
  sz : Option Nat
  z : List Value
  i : Nat
  j : Nat
def Fr.ops (F : Fr) : List SOper := [⟨some F.d, .alloc F.z, none⟩, ⟨none, .store F.sz (.tmp F.d) (.tmp F.t), none⟩]
def frAt (d : Nat) (z : List Value) (i : Nat) : SOper × Nat → Option Fr
  | (⟨none, .store sz (.tmp d') (.tmp t), none⟩, j) => if d' = d then some ⟨d, t, sz, z, i, j⟩ else none
  | _ => none
def frOf (sl : List SOper) : SOper × Nat → List Fr
  | (⟨some d, .alloc z, none⟩, i) => sl.zipIdx.filterMap (frAt d z i)
  | _ => []
def frs (sl : List SOper) : List Fr := sl.zipIdx.flatMap (frOf sl)
theorem frs_mem {sl : List SOper} {F : Fr} (h : F ∈ frs sl) : sl[F.i]? = some ⟨some F.d, .alloc F.z, none⟩ ∧ sl[F.j]? = some ⟨none, .store F.sz (.tmp F.d) (.tmp F.t), none⟩ := by
  simp only [frs, List.mem_flatMap] at h
  obtain ⟨⟨s, i⟩, hs, h⟩ := h
  rw [List.mem_iff_getElem?] at hs
  obtain ⟨i', hs⟩ := hs
  simp only [List.getElem?_zipIdx, Nat.zero_add, Option.map_eq_some_iff, Prod.mk.injEq] at hs
  obtain ⟨s', hs, rfl, rfl⟩ := hs
  unfold frOf at h
  split at h
  · rename_i d z i' he
    cases he
    simp only [List.mem_filterMap] at h
    obtain ⟨⟨u, j⟩, hu, h⟩ := h
    rw [List.mem_iff_getElem?] at hu
    obtain ⟨j', hu⟩ := hu
    simp only [List.getElem?_zipIdx, Nat.zero_add, Option.map_eq_some_iff, Prod.mk.injEq] at hu
    obtain ⟨u', hu, rfl, rfl⟩ := hu
    unfold frAt at h
    split at h
    · rename_i he
      cases he
      split at h
      · rename_i e
        cases h
        subst e
        exact ⟨hs, hu⟩
      · simp at h
    · simp at h
  · simp at h
def nop : SOper := ⟨none, .mv (.const (.int .i64 0)), none⟩
def isFr (sl : List SOper) (k : Nat) : Bool := (frs sl).any fun F => F.i == k || F.j == k
def mainL (sl : List SOper) : List SOper := sl.zipIdx.map fun p => if isFr sl p.2 then nop else p.1
theorem mainL_length (sl : List SOper) : (mainL sl).length = sl.length := by simp [mainL]
theorem mainL_get (sl : List SOper) (k : Nat) : (mainL sl)[k]? = (sl[k]?).map fun s => if isFr sl k then nop else s := by
  simp only [mainL, List.getElem?_map, List.getElem?_zipIdx, Option.map_map, Nat.zero_add]
  rfl
def freshOk (ops : Array Oper) (sl : List SOper) : Bool :=
  let Fs := frs sl
  let m := mainL sl
  drawOk ops m &&
  Fs.all (fun F => reach ops deep F.i F.j && (m.all fun s => s.dst != some F.d && !s.reads.contains F.d) && (Fs.all fun E => E.d != F.t && E.i != F.j) && (m.zipIdx.any fun p => p.1.dst == some F.t && reach ops deep p.2 F.j)) &&
  Fs.zipIdx.all (fun p => Fs.zipIdx.all fun q => p.2 == q.2 || (p.1.d != q.1.d && p.1.i != q.1.i && p.1.j != q.1.j))
theorem freshOk_spec {ops : Array Oper} {sl : List SOper} (h : freshOk ops sl = true) : drawOk ops (mainL sl) = true ∧
    (∀ F ∈ frs sl, reach ops deep F.i F.j = true ∧ (∀ s ∈ mainL sl, s.dst ≠ some F.d ∧ F.d ∉ s.reads) ∧ (∀ E ∈ frs sl, E.d ≠ F.t ∧ E.i ≠ F.j) ∧ ∃ k s, (mainL sl)[k]? = some s ∧ s.dst = some F.t ∧ reach ops deep k F.j = true) ∧
    (∀ (p q : Nat) (F E : Fr), (frs sl)[p]? = some F → (frs sl)[q]? = some E → p ≠ q → F.d ≠ E.d ∧ F.i ≠ E.i ∧ F.j ≠ E.j) := by
  simp only [freshOk, Bool.and_eq_true, List.all_eq_true] at h
  obtain ⟨⟨h1, h2⟩, h3⟩ := h
  refine ⟨h1, fun F hF => ?_, fun p q F E hp hq hne => ?_⟩
  · obtain ⟨⟨⟨k1, k2⟩, k3⟩, k4⟩ := h2 F hF
    refine ⟨k1, fun s hs => ?_, fun E hE => ?_, ?_⟩
    · have := k2 s hs
      simpa using this
    · have := k3 E hE
      simpa using this
    · simp only [List.any_eq_true, Bool.and_eq_true, beq_iff_eq] at k4
      obtain ⟨⟨s, k⟩, hk, e1, e2⟩ := k4
      rw [List.mem_iff_getElem?] at hk
      obtain ⟨k', hk⟩ := hk
      simp only [List.getElem?_zipIdx, Nat.zero_add, Option.map_eq_some_iff, Prod.mk.injEq] at hk
      obtain ⟨s', hs, rfl, rfl⟩ := hk
      exact ⟨k', s', hs, e1, e2⟩
  · have := h3 (F, p) (mem_zipIdx' hp) (E, q) (mem_zipIdx' hq)
    simpa [hne, and_assoc] using this
def sto (F : Fr) (a : Act) : List Value := (a.tmps.getD F.t undef).cells.toList ++ F.z.drop (a.tmps.getD F.t undef).cells.toList.length
structure PD (w0 : World) (L : List Fr) (D : Nat → Prop) (G : Gh) (a : Act) (w : World) : Prop where
  zero : ∀ F ∈ L, D F.i → ¬ D F.j → ∃ b, Pend w0 G a w F.d b F.z
  full : ∀ F ∈ L, D F.j → ∃ b, Pend w0 G a w F.d b (sto F a)
  inj : ∀ F ∈ L, ∀ E ∈ L, D F.i → D E.i → F.d ≠ E.d → a.tmps.getD F.d undef ≠ a.tmps.getD E.d undef
theorem PD.step {L : List Fr} {D D' : Nat → Prop} (h : PD w0 L D G a w) (hR' : R P w G.reg ⟨G, Z.c, Z.defs, Z.lim⟩ G' st' a' w') (hi : ∀ F ∈ L, (D' F.i ↔ D F.i) ∧ (D' F.j ↔ D F.j))
    (hd : ∀ F ∈ L, a'.tmps.getD F.d undef = a.tmps.getD F.d undef) (ht : ∀ F ∈ L, D F.j → a'.tmps.getD F.t undef = a.tmps.getD F.t undef) : PD w0 L D' G' a' w' := by
  refine ⟨fun F hF h1 h2 => ?_, fun F hF h1 => ?_, fun F hF E hE h1 h2 hne => ?_⟩
  · obtain ⟨b, hb⟩ := h.zero F hF ((hi F hF).1.1 h1) (fun e => h2 ((hi F hF).2.2 e))
    exact ⟨b, hb.step hR' (hd F hF)⟩
  · have hj := (hi F hF).2.1 h1
    obtain ⟨b, hb⟩ := h.full F hF hj
    refine ⟨b, ?_⟩
    have : sto F a' = sto F a := by simp only [sto, ht F hF hj]
    rw [this]
    exact hb.step hR' (hd F hF)
  · rw [hd F hF, hd E hE]
    exact h.inj F hF E hE ((hi F hF).1.1 h1) ((hi E hE).1.1 h2) hne
theorem Mid.congr {ops : Array Oper} {sl : List SOper} {f : Nat → ASt} {D D' : Nat → Prop} (hb : ∀ i, i < sl.length → ∀ k ∈ binders ops i, k < i) (h : ∀ k, k < sl.length → (D k ↔ D' k)) (hm : Mid P ops sl f D st) : Mid P ops sl f D' st := by
  refine ⟨?_, ?_, ?_, ?_, hm.N⟩
  · intro i hi hd k hk
    have := hb i hi k hk
    exact (h k (by omega)).1 (hm.closed i hi ((h i hi).2 hd) k hk)
  · intro t i o hi ho hd
    exact hm.done t i o hi ho ((h i (lt_of_get hi)).2 hd)
  · intro t ht
    exact hm.ahead t fun i o hi ho hd => ht i o hi ho ((h i (lt_of_get hi)).1 hd)
  · obtain ⟨m, q1, q2, q3, q4⟩ := hm.heap
    exact ⟨m, q1, q2, q3, fun i o hi ho => (h i (lt_of_get hi)).symm.trans (q4 i o hi ho)⟩
theorem PD.congr {L : List Fr} {D D' : Nat → Prop} (h : PD w0 L D G a w) (hi : ∀ F ∈ L, (D F.i ↔ D' F.i) ∧ (D F.j ↔ D' F.j)) : PD w0 L D' G a w :=
  ⟨fun F hF h1 h2 => h.zero F hF ((hi F hF).1.2 h1) (fun e => h2 ((hi F hF).2.1 e)), fun F hF h1 => h.full F hF ((hi F hF).2.2 h1), fun F hF E hE h1 h2 => h.inj F hF E hE ((hi F hF).1.2 h1) ((hi E hE).1.2 h2)⟩
theorem slimO_none {N : Nat} {q : Bool} {ops : Array Oper} {o : Oper} {d : Option Nat} {s : SOp} (hs : slimO P N q ops o = some ⟨d, s, none⟩) : o.dst = d ∧ o.guard = none ∧ (slimOp P o).weak = s.weak ∧ ∀ t, o.dst = some t → t < N := by
  unfold slimO at hs
  split at hs
  · rename_i hd0
    have hd : ∀ t, o.dst = some t → t < N := by
      intro t ht
      rw [ht] at hd0
      simpa [dstOk] using hd0
    split at hs
    · rename_i hg
      simp only [Option.some.injEq, SOper.mk.injEq, and_true] at hs
      obtain ⟨rfl, rfl⟩ := hs
      exact ⟨rfl, hg, (weak_weak _ _ _).symm, hd⟩
    · split at hs
      · split at hs <;> simp at hs
      · simp at hs
  · simp at hs
theorem slimO_dst {N : Nat} {q : Bool} {ops : Array Oper} {o : Oper} {s : SOper} (hs : slimO P N q ops o = some s) : s.dst = o.dst := by
  unfold slimO at hs
  split at hs
  · split at hs
    · simp only [Option.some.injEq] at hs; subst hs; rfl
    · split at hs
      · split at hs
        · simp only [Option.some.injEq] at hs; subst hs; rfl
        · simp at hs
      · simp at hs
  · simp at hs
theorem slim_alloc {o : Oper} {z : List Value} (hs : slimOp P o = .alloc z) : ∃ T, o.op = .alloc T ∧ zeroT P T = some z := by
  cases hop : o.op with
  | alloc T =>
    simp only [slimOp, hop] at hs
    split at hs
    · rename_i z' hz; cases hs; exact ⟨T, rfl, hz⟩
    · simp at hs
  | _ =>
    exfalso
    revert hs
    simp only [slimOp, hop]
    (repeat' split) <;> simp_all
theorem slim_store {o : Oper} {sz : Option Nat} {x v : Operand} (hs : slimOp P o = .store sz x v) : ∃ T, o.op = .store T x v ∧ szT P T = some sz := by
  cases hop : o.op with
  | store T x' v' =>
    simp only [slimOp, hop] at hs
    split at hs
    · rename_i z' hz; cases hs; exact ⟨T, rfl, hz⟩
    · simp at hs
  | _ =>
    exfalso
    revert hs
    simp only [slimOp, hop]
    (repeat' split) <;> simp_all
theorem R.putJunk (hR : R P w0 M Z G st a w) {d : Nat} {x : Value} (hj : st.tm d = .junk) : R P w0 M Z G st (a.put (some d) x) w :=
  { hR with
    size := by rw [put_size]; exact hR.size
    tm := fun t => by
      rw [put_get]
      split
      · rename_i h
        obtain ⟨e, _⟩ := h
        cases e
        rw [hj]; simp [Rd]
      · exact hR.tm t
    defers := by rw [put_defers']; exact hR.defers }
theorem Pend.world {d b : Nat} {vs : List Value} (h : Pend w0 G a w d b vs) (hsz : w.heap.size ≤ w'.heap.size) (hb : w'.heap[b]? = w.heap[b]?) (ht : a'.tmps.getD d undef = a.tmps.getD d undef) : Pend w0 G a' w' d b vs :=
  ⟨ht.trans h.tm, Nat.lt_of_lt_of_le h.lt hsz, h.new, h.S, h.reg, by rw [hb]; exact h.row, h.ones⟩
theorem R.reg_lt (hR : R P w0 M Z G st a w) {b : Nat} (h : G.reg b) : b < w.heap.size := by
  obtain ⟨id, g, h⟩ := h
  obtain ⟨⟨nl, cells⟩, ho⟩ := hR.heap.live _ _ _ h
  obtain ⟨ob, k1, _, _, k4⟩ := hR.heap.row _ _ _ _ ho
  rw [h] at k1; cases k1
  obtain ⟨_, _, vs, _, k3⟩ := k4 b rfl
  exact k3.lt
theorem make_step {q : Bool} {N : Nat} {ops : Array Oper} {i d : Nat} {z : List Value} {o : Oper} {Q : Exit → Act → World → Prop} (ho : ops[i]? = some o) (hs : slimO P N q ops o = some ⟨some d, .alloc z, none⟩) (hR : R P w0 M Z G st a w) (hN : st.N = N) (hj : st.tm d = .junk) :
    wpOp P ops Q i (fun a' w' => R P w0 M Z G st a' w' ∧ Pend w0 G a' w' d w.heap.size z ∧ a' = a.put (some d) (.pointer (some ⟨w.heap.size, 0, none⟩)) ∧ w.heap.size ≤ w'.heap.size ∧ ∀ b, b < w.heap.size → w'.heap[b]? = w.heap[b]?) a w := by
  obtain ⟨hd, hg, hw, hlt⟩ := slimO_none hs
  have hs' : slimOp P o = .alloc z := by
    cases hx : slimOp P o <;> rw [hx] at hw <;> simp [SOp.weak] at hw
    rw [hw]
  obtain ⟨T, hop, hz⟩ := slim_alloc hs'
  obtain ⟨inf, zv, hi, hzz, rfl, h1⟩ := zeroT_spec hz
  have hrun : (Instr.alloc T true (.tuple #[])).run P w = .ok (.pointer (some ⟨w.heap.size, 0, none⟩)) (w.alloc (.cells zv.cells T)) := by
    simp [Instr.alloc, zeroValue, typeInfo, hi, hzz, newVar, newRow]
  have hrun' : (execOp a.eval o).run P w = .ok (.value (.pointer (some ⟨w.heap.size, 0, none⟩))) (w.alloc (.cells zv.cells T)) := by
    simp only [execOp, hop]; exact run_v hrun
  simp only [wpOp, ho]
  rw [if_pos (by simp [Region.wanted, hg])]
  refine .inl ?_
  unfold Oper.wp
  rw [hrun', Oper.upon_value, hd]
  have hk := alloc_keep w (.cells zv.cells T)
  have hS : ¬ G.S w.heap.size := fun h => by have := hR.heap.lt _ h; omega
  have hreg : ¬ G.reg w.heap.size := fun h => by have := hR.reg_lt h; omega
  have hsz : w.heap.size ≤ (w.alloc (.cells zv.cells T)).heap.size := hk.size
  have hfr : ∀ b, b < w.heap.size → (w.alloc (.cells zv.cells T)).heap[b]? = w.heap[b]? := fun b hb => hk.block b hb (fun h => h)
  refine ⟨(hR.world hk.os hk.tape hk.output hsz (nb := w.heap.size) (fun b hb _ => hfr b hb) (fun p h => absurd (lt_of_shape h) (by omega)) hS hreg hR.keep.size).putJunk hj, ⟨?_, by rw [alloc_size]; omega, hR.keep.size, hS, hreg, ⟨zv.cells, T, alloc_get _ _, by simp, fun j v hv => by simpa using hv⟩, h1⟩, rfl, hsz, hfr⟩
  rw [put_get, if_pos ⟨rfl, by rw [hR.size, hN]; exact hlt d hd⟩]
theorem fill_step {q : Bool} {N : Nat} {ops : Array Oper} {i b : Nat} {F : Fr} {o : Oper} {Q : Exit → Act → World → Prop} {ys : List AV} (ho : ops[i]? = some o) (hs : slimO P N q ops o = some ⟨none, .store F.sz (.tmp F.d) (.tmp F.t), none⟩) (hR : R P w0 M Z G st a w)
    (hp : Pend w0 G a w F.d b F.z) (hc : cellsA (st.tm F.t) = some ys) (hl : ys.length = esz F.sz) (hle : ys.length ≤ F.z.length) :
    wpOp P ops Q i (fun a' w' => R P w0 M Z G st a' w' ∧ Pend w0 G a' w' F.d b (sto F a) ∧ a' = a ∧ w.heap.size ≤ w'.heap.size ∧ ∀ b', b' ≠ b → w'.heap[b']? = w.heap[b']?) a w := by
  obtain ⟨hd, hg, hw, _⟩ := slimO_none hs
  have hs' : slimOp P o = .store F.sz (.tmp F.d) (.tmp F.t) := by
    cases hx : slimOp P o <;> rw [hx] at hw <;> simp [SOp.weak] at hw
    obtain ⟨e1, e2, e3⟩ := hw
    rw [e1, e2, e3]
  obtain ⟨T, hop, hT⟩ := slim_store hs'
  obtain ⟨cs, E, hrow, hcsz, hcs⟩ := hp.row
  have hv := hR.tm F.t
  generalize hvv : a.tmps.getD F.t undef = vv at hv
  have hlv := (hv.cells hc).length
  have hov := cells_ones hv hc
  have hst := run_storeCells_at (P := P) b 0 E vv.cells.toList 0 cs w hrow (by omega) hov
  simp only [Nat.zero_add, List.take_zero, List.nil_append] at hst
  have hrun : (execOp a.eval o).run P w = .ok .skip (w.setRow b (vv.cells.toList ++ cs.toList.drop vv.cells.toList.length).toArray) := by
    simp only [execOp, hop]
    refine run_u ?_
    have e1 : a.eval (.tmp F.d) = .pointer (some ⟨b, 0, none⟩) := hp.tm
    have e2 : a.eval (.tmp F.t) = vv := hvv
    rw [e1, e2]
    have hsz : vv.cells.size = esz F.sz := by rw [← Array.length_toList]; omega
    simp only [Instr.storeAt, Instr.sureAddr, storeVar]
    have hl2 : vv.cells.toList.length = esz F.sz := by omega
    simp [sizeOf_run hT, hsz]
    rw [hst, hl2]
  simp only [wpOp, ho]
  rw [if_pos (by simp [Region.wanted, hg])]
  refine .inl ?_
  unfold Oper.wp
  rw [hrun, Oper.upon_skip, hd]
  have hput : a.put none undef = a := rfl
  rw [hput]
  have hsz' : ((vv.cells.toList ++ cs.toList.drop vv.cells.toList.length).toArray).size = cs.size := by
    simp only [List.size_toArray, List.length_append, List.length_drop, Array.length_toList]
    rw [← Array.length_toList] at hcsz ⊢
    simp only [Array.length_toList] at *
    omega
  have hlst : (sto F a).length = F.z.length := by
    simp only [sto, hvv, List.length_append, List.length_drop]
    omega
  refine ⟨hR.world rfl rfl rfl (by rw [setRow_size]; exact Nat.le_refl _) (nb := b) (fun b' _ h => setRow_other _ _ _ _ h) (fun p hp' => by
      simp only [World.shape?, hrow] at hp'
      simp only [World.shape?, setRow_get _ _ _ _ _ _ hrow, hsz']
      exact hp') hp.S hp.reg hp.new, ⟨hp.tm, by rw [setRow_size]; exact hp.lt, hp.new, hp.S, hp.reg, ⟨_, E, setRow_get _ _ _ _ _ _ hrow, by rw [hsz', hcsz, hlst], ?_⟩, ?_⟩, rfl, by rw [setRow_size]; exact Nat.le_refl _, fun b' h => setRow_other _ _ _ _ h⟩
  · have := splice_get (us := vv.cells.toList) (o := 0) hcs (by omega) (by omega)
    simpa [sto, hvv] using this
  · intro u hu
    simp only [sto, hvv, List.mem_append] at hu
    rcases hu with hu | hu
    · exact hov u hu
    · exact hp.ones u (List.mem_of_mem_drop hu)
theorem AOps_append : ∀ (l : List SOper) {r : List SOper} {K : ASt → Prop} {st : ASt}, AOps P (l ++ r) K st ↔ AOps P l (AOps P r K) st
  | [], _, _, _ => Iff.rfl
  | o :: l, r, K, st => by
    rw [List.cons_append, AOps_cons, AOps_cons]
    exact ⟨fun h => h.mono fun s hs => (AOps_append l).1 hs, fun h => h.mono fun s hs => (AOps_append l).2 hs⟩
def isNop : SOper → Bool
  | ⟨none, .mv _, none⟩ => true
  | _ => false
theorem AOps_nops {K : ASt → Prop} : ∀ (l : List SOper) {st : ASt}, AOps P (l.filter fun s => !isNop s) K st → AOps P l K st
  | [], _, h => h
  | o :: l, st, h => by
    rw [List.filter_cons] at h
    split at h
    · rw [AOps_cons] at h ⊢
      exact h.mono fun s hs => AOps_nops l hs
    · rename_i hn
      rw [AOps_cons]
      unfold isNop at hn
      split at hn
      · exact ⟨trivial, AOps_nops l h⟩
      · simp at hn
theorem adopt_all {K : ASt → Prop} : ∀ (L : List Fr) (s : ASt) (G : Gh), (L.map (·.d)).Nodup → (∀ F ∈ L, ∀ E ∈ L, E.d ≠ F.t) → AOps P (L.flatMap Fr.ops) K s → R P w0 M Z G (hid (L.map (·.d)) s) a w →
    (∀ F ∈ L, ∃ b, Pend w0 G a w F.d b (sto F a)) → (∀ F ∈ L, ∀ E ∈ L, F.d ≠ E.d → a.tmps.getD F.d undef ≠ a.tmps.getD E.d undef) → ∃ s' G', K s' ∧ R P w0 M Z G' s' a w
  | [], s, G, _, _, h, hR, _, _ => ⟨s, G, h, hR⟩
  | F :: L, s, G, hn, hdt, h, hR, hp, hi => by
    simp only [List.map_cons, List.nodup_cons] at hn
    obtain ⟨hnF, hn⟩ := hn
    have hne : F.d ≠ F.t := hdt F (by simp) F (by simp)
    have htL : F.t ∉ L.map (·.d) := by
      intro h'
      rw [List.mem_map] at h'
      obtain ⟨E, hE, e⟩ := h'
      exact hdt F (by simp) E (by simp [hE]) e
    obtain ⟨b, hb⟩ := hp F (by simp)
    simp only [List.flatMap_cons, Fr.ops, List.cons_append, List.nil_append] at h
    have h : (aStore F.sz (.op F.d s.gc 0) (s.tm F.t) (updH s.hp F.d (some (s.gc, .row false (F.z.map .sc)))) (s.gc + 1)).1 ∧
        AOps P (L.flatMap Fr.ops) K ⟨upd s.tm F.d (.op F.d s.gc 0), (aStore F.sz (.op F.d s.gc 0) (s.tm F.t) (updH s.hp F.d (some (s.gc, .row false (F.z.map .sc)))) (s.gc + 1)).2.2.1, (aStore F.sz (.op F.d s.gc 0) (s.tm F.t) (updH s.hp F.d (some (s.gc, .row false (F.z.map .sc)))) (s.gc + 1)).2.2.2, s.N⟩ := by
      have e1 : upd s.tm F.d (.op F.d s.gc 0) F.d = .op F.d s.gc 0 := by simp [upd]
      have e2 : upd s.tm F.d (.op F.d s.gc 0) F.t = s.tm F.t := by simp [upd, Ne.symm hne]
      have h' := h.2
      have h'' : (aStore F.sz (upd s.tm F.d (.op F.d s.gc 0) F.d) (upd s.tm F.d (.op F.d s.gc 0) F.t) (updH s.hp F.d (some (s.gc, .row false (F.z.map .sc)))) (s.gc + 1)).1 ∧
        AOps P (L.flatMap Fr.ops) K ⟨upd s.tm F.d (.op F.d s.gc 0), (aStore F.sz (upd s.tm F.d (.op F.d s.gc 0) F.d) (upd s.tm F.d (.op F.d s.gc 0) F.t) (updH s.hp F.d (some (s.gc, .row false (F.z.map .sc)))) (s.gc + 1)).2.2.1, (aStore F.sz (upd s.tm F.d (.op F.d s.gc 0) F.d) (upd s.tm F.d (.op F.d s.gc 0) F.t) (updH s.hp F.d (some (s.gc, .row false (F.z.map .sc)))) (s.gc + 1)).2.2.2, s.N⟩ := h'
      rw [e1, e2] at h''
      exact h''
    have hrt : Rd G w (s.tm F.t) (a.tmps.getD F.t undef) := by
      have := hR.tm F.t
      simp only [hid] at this
      rw [if_neg (by simp only [List.map_cons, List.mem_cons, not_or]; exact ⟨Ne.symm hne, htL⟩)] at this
      exact this
    have hgt : (s.tm F.t).gl s.gc := by
      have := hR.gl F.t
      simp only [hid] at this
      rw [if_neg (by simp only [List.map_cons, List.mem_cons, not_or]; exact ⟨Ne.symm hne, htL⟩)] at this
      exact this
    cases hc : cellsA (s.tm F.t) with
    | none => simp only [aStore, hc] at h; exact h.1.elim
    | some ys =>
      have hup : updH s.hp F.d (some (s.gc, AO.row false (F.z.map .sc))) F.d = some (s.gc, .row false (F.z.map .sc)) := by simp [updH]
      simp only [aStore, hc, hup] at h
      obtain ⟨⟨_, hl, hle⟩, h⟩ := h
      simp only [List.length_map, Nat.zero_add] at hle
      have hlv := (hrt.cells hc).length
      have hcells : RdL G w (splice 0 ys (F.z.map .sc)) (sto F a) := by
        simp only [splice, List.take_zero, List.nil_append, Nat.zero_add, sto, hlv]
        exact (hrt.cells hc).append ((rdL_sc F.z).drop _)
      have hgl : AV.gl.glL s.gc (splice 0 ys (F.z.map .sc)) := by
        simp only [splice, List.take_zero, List.nil_append]
        exact glL_append (cells_gl hgt hc) (glL_drop (glL_sc _))
      have hR2 := hR.adopt hb hcells hgl
      refine adopt_all L _ (putG G F.d s.gc b) hn (fun E hE E' hE' => hdt E (by simp [hE]) E' (by simp [hE'])) h ?_ ?_ (fun E hE E' hE' => hi E (by simp [hE]) E' (by simp [hE']))
      · have : (⟨upd (hid ((F :: L).map (·.d)) s).tm F.d (.op F.d (hid ((F :: L).map (·.d)) s).gc 0), updH (hid ((F :: L).map (·.d)) s).hp F.d (some ((hid ((F :: L).map (·.d)) s).gc, .row false (splice 0 ys (F.z.map .sc)))), (hid ((F :: L).map (·.d)) s).gc + 1, (hid ((F :: L).map (·.d)) s).N⟩ : ASt) =
            hid (L.map (·.d)) ⟨upd s.tm F.d (.op F.d s.gc 0), updH (updH s.hp F.d (some (s.gc, .row false (F.z.map .sc)))) F.d (some (s.gc, .row false (splice 0 ys (F.z.map .sc)))), s.gc + 1, s.N⟩ := by
          simp only [hid, ASt.mk.injEq, and_true]
          refine ⟨?_, ?_⟩
          · funext t
            simp only [upd, List.map_cons, List.mem_cons]
            by_cases e : t = F.d
            · subst e; simp [hnF]
            · simp [e]
          · funext k
            simp only [updH]
            split <;> rfl
        rw [this] at hR2
        exact hR2
      · intro E hE
        obtain ⟨b', hb'⟩ := hp E (by simp [hE])
        refine ⟨b', hb'.adopted ?_⟩
        intro e
        have hdd : F.d ≠ E.d := fun e' => hnF (by rw [e']; exact List.mem_map.2 ⟨E, hE, rfl⟩)
        have := hi F (by simp) E (by simp [hE]) hdd
        rw [hb.tm, hb'.tm, e] at this
        exact this rfl
theorem fills {K : ASt → Prop} : ∀ (L : List Fr) (s : ASt), (∀ F ∈ L, ∀ E ∈ L, E.d ≠ F.t) → AOps P (L.flatMap Fr.ops) K s → ∀ F ∈ L, ∃ ys, cellsA (s.tm F.t) = some ys ∧ ys.length = esz F.sz ∧ ys.length ≤ F.z.length
  | [], s, _, _, F, hF => by simp at hF
  | F :: L, s, hdt, h, E, hE => by
    have hne : F.d ≠ F.t := hdt F (by simp) F (by simp)
    have e1 : upd s.tm F.d (.op F.d s.gc 0) F.d = .op F.d s.gc 0 := by simp [upd]
    have e2 : upd s.tm F.d (.op F.d s.gc 0) F.t = s.tm F.t := by simp [upd, Ne.symm hne]
    simp only [List.flatMap_cons, Fr.ops, List.cons_append, List.nil_append] at h
    have h'' : (aStore F.sz (upd s.tm F.d (.op F.d s.gc 0) F.d) (upd s.tm F.d (.op F.d s.gc 0) F.t) (updH s.hp F.d (some (s.gc, .row false (F.z.map .sc)))) (s.gc + 1)).1 ∧
        AOps P (L.flatMap Fr.ops) K ⟨upd s.tm F.d (.op F.d s.gc 0), (aStore F.sz (upd s.tm F.d (.op F.d s.gc 0) F.d) (upd s.tm F.d (.op F.d s.gc 0) F.t) (updH s.hp F.d (some (s.gc, .row false (F.z.map .sc)))) (s.gc + 1)).2.2.1, (aStore F.sz (upd s.tm F.d (.op F.d s.gc 0) F.d) (upd s.tm F.d (.op F.d s.gc 0) F.t) (updH s.hp F.d (some (s.gc, .row false (F.z.map .sc)))) (s.gc + 1)).2.2.2, s.N⟩ := h.2
    rw [e1, e2] at h''
    rw [List.mem_cons] at hE
    rcases hE with rfl | hE
    · cases hc : cellsA (s.tm E.t) with
      | none => simp only [aStore, hc] at h''; exact h''.1.elim
      | some ys =>
        have hup : updH s.hp E.d (some (s.gc, AO.row false (E.z.map .sc))) E.d = some (s.gc, .row false (E.z.map .sc)) := by simp [updH]
        simp only [aStore, hc, hup, List.length_map, Nat.zero_add] at h''
        exact ⟨ys, rfl, h''.1.2.1, h''.1.2.2⟩
    · have := fills L _ (fun E hE E' hE' => hdt E (by simp [hE]) E' (by simp [hE'])) h''.2 E hE
      simp only [upd] at this
      rw [if_neg (fun e => hdt E (by simp [hE]) F (by simp) e.symm)] at this
      exact this
def slim2 (sl : List SOper) : List SOper := ((mainL sl).filter fun s => !isNop s) ++ (frs sl).flatMap Fr.ops
theorem draw2_sound {q : Bool} {ops : Array Oper} {sl : List SOper} {K : ASt → Prop} {Q : Exit → Act → World → Prop} {id N : Nat} (hmix : P.follows .mixedOrders = true) (hQ : ¬ LetsOut Q) (hsl : ops.toList.mapM (slimO P N q ops) = some sl) (hok : freshOk ops sl = true)
    (hK : ∀ st G a w, K st → R P w0 M Z G st a w → Q .normal a w) (hN : st.N = N) (hR : R P w0 M Z G st a w) (h : AOps P (slim2 sl) K st) : wpR P (Code.region id ops true) Q a w := by
  obtain ⟨hdraw, hF, hpair⟩ := freshOk_spec hok
  obtain ⟨hlen, hget⟩ := mapM_get hsl
  have hml := mainL_length sl
  obtain ⟨k1, k2, k3, k4⟩ := drawOk_spec hdraw
  have h : AOps P (mainL sl) (fun s => AOps P ((frs sl).flatMap Fr.ops) K s) st := AOps_nops _ ((AOps_append _).1 h)
  obtain ⟨f, hf0, hKf, hf⟩ := h.runs
  have hdt : ∀ F ∈ frs sl, ∀ E ∈ frs sl, E.d ≠ F.t := fun F h1 E h2 => ((hF F h1).2.2.1 E h2).1
  have hij : ∀ F ∈ frs sl, ∀ E ∈ frs sl, E.i ≠ F.j := fun F h1 E h2 => ((hF F h1).2.2.1 E h2).2
  have hfill := fills _ _ hdt hKf
  have huniq : ∀ F ∈ frs sl, ∀ E ∈ frs sl, (F.d = E.d ∨ F.i = E.i ∨ F.j = E.j) → F = E := by
    intro F h1 E h2 he
    rw [List.mem_iff_getElem?] at h1 h2
    obtain ⟨p, hp⟩ := h1
    obtain ⟨p', hp'⟩ := h2
    by_cases e : p = p'
    · subst e; rw [hp] at hp'; cases hp'; rfl
    · obtain ⟨e1, e2, e3⟩ := hpair _ _ _ _ hp hp' e
      rcases he with he | he | he
      · exact absurd he e1
      · exact absurd he e2
      · exact absurd he e3
  have hnd : ((frs sl).map (·.d)).Nodup := by
    rw [List.nodup_iff_pairwise_ne, List.pairwise_map, List.pairwise_iff_getElem]
    intro p p' hp hp' hlt
    exact (hpair p p' _ _ (List.getElem?_eq_getElem hp) (List.getElem?_eq_getElem hp') (by omega)).1
  have hds : ∀ F ∈ frs sl, F.d ∈ (frs sl).map (·.d) := fun F h => List.mem_map.2 ⟨F, h, rfl⟩
  have htds : ∀ F ∈ frs sl, F.t ∉ (frs sl).map (·.d) := fun F h h' => by
    rw [List.mem_map] at h'
    obtain ⟨E, hE, e⟩ := h'
    exact hdt F h E hE e
  refine wpR_region_any hmix hQ ?_
  have hR' : R P w0 M Z G st a { w with drawn := w.drawn + 1 } := hR.heapEq rfl rfl rfl rfl
  have hRh : R P w0 M Z G (hid ((frs sl).map (·.d)) st) a { w with drawn := w.drawn + 1 } :=
    { hR' with
      tm := fun t => by
        simp only [hid]
        split
        · simp [Rd]
        · exact hR'.tm t
      gl := fun t => by
        simp only [hid]
        split
        · simp [AV.gl]
        · exact hR'.gl t }
  refine any_inv (fun D a w => ∃ st G, Mid P ops (mainL sl) f D st ∧ R P w0 M Z G (hid ((frs sl).map (·.d)) st) a w ∧ PD w0 (frs sl) D G a w) (fun i hi => k1 i (by omega)) ?_ ?_ ?_ ops.size (Array.replicate ops.size false) a _ (by simp) (by
    exact Nat.le_trans (List.length_filter_le _ _) (by simp)) ?_
  · rintro D D' a w hDD ⟨st, G, hm, hR, hp⟩
    refine ⟨st, G, hm.congr k1 (fun k hk => hDD k (by omega)), hR, hp.congr fun F hFm => ?_⟩
    obtain ⟨e1, e2⟩ := frs_mem hFm
    exact ⟨hDD _ (by rw [← hlen]; exact lt_of_get e1), hDD _ (by rw [← hlen]; exact lt_of_get e2)⟩
  · rintro D a w i o ho ⟨st, G, hm, hR, hp⟩ hnd' hr
    obtain ⟨s, hs, hso⟩ := hget i o ho
    have hin : i < (mainL sl).length := by rw [hml]; exact lt_of_get hs
    have hstN : (hid ((frs sl).map (·.d)) st).N = N := by
      have := hm.N
      rw [hf0, hN] at this
      exact this
    have hsm : (mainL sl)[i]? = some (if isFr sl i then nop else s) := by rw [mainL_get, hs]; rfl
    have hstep := mid_step hdraw hf hm hsm hnd' hr
    have hwr : ∀ F ∈ frs sl, (∀ k ∈ binders ops F.j, D k) → ∃ k s', (mainL sl)[k]? = some s' ∧ s'.dst = some F.t ∧ D k := by
      intro F hFm hbj
      obtain ⟨_, _, _, k, s', e1, e2, e3⟩ := hF F hFm
      have hjl : F.j < (mainL sl).length := by rw [hml]; exact lt_of_get (frs_mem hFm).2
      exact ⟨k, s', e1, e2, reach_done k1 hm.closed deep k F.j hjl hbj e3⟩
    cases hfr : isFr sl i with
    | false =>
      rw [hfr] at hsm hstep
      simp only [Bool.false_eq_true, if_false] at hsm hstep
      have hsmem : s ∈ mainL sl := List.mem_iff_getElem?.2 ⟨i, hsm⟩
      have hni : ∀ F ∈ frs sl, F.i ≠ i ∧ F.j ≠ i := by
        intro F hFm
        have := List.any_eq_false.1 hfr F hFm
        simpa using this
      have hg := hstep.hid (ds := (frs sl).map (·.d)) (fun t ht h' => by
        rw [List.mem_map] at h'
        obtain ⟨F, hFm, rfl⟩ := h'
        exact ((hF F hFm).2.1 s hsmem).2 ht) (fun t ht h' => by
        rw [List.mem_map] at h'
        obtain ⟨F, hFm, rfl⟩ := h'
        exact ((hF F hFm).2.1 s hsmem).1 ht)
      have := wpOpPut ho (gstep_sound (Q := Q) ho (by rw [hstN]; exact hso) hR.rebase hg)
      refine wpOp_mono ?_ this
      rintro a' w' ⟨⟨st', G', ⟨s', rfl, hm'⟩, hR'⟩, x, hx⟩
      have hod : o.dst = s.dst := (slimO_dst hso).symm
      have hkeep : ∀ t, s.dst ≠ some t → a'.tmps.getD t undef = a.tmps.getD t undef := by
        intro t ht
        rw [hx, put_get, if_neg (fun e => ht (hod ▸ e.1))]
      refine ⟨s', G', hm', hR.unbase hR', hp.step hR' (fun F hFm => ?_) (fun F hFm => hkeep _ ((hF F hFm).2.1 s hsmem).1) (fun F hFm hDj => hkeep _ fun e => ?_)⟩
      · obtain ⟨e1, e2⟩ := hni F hFm
        exact ⟨⟨fun h => h.resolve_left e1, .inr⟩, ⟨fun h => h.resolve_left e2, .inr⟩⟩
      · have hjl : F.j < (mainL sl).length := by rw [hml]; exact lt_of_get (frs_mem hFm).2
        obtain ⟨k, u, q1, q2, q3⟩ := hwr F hFm (hm.closed F.j hjl hDj)
        have := k2 i k s u F.t hsm q1 e q2
        subst this
        exact hnd' q3
    | true =>
      rw [hfr] at hstep
      simp only [if_true] at hstep
      have hmid : Mid P ops (mainL sl) f (fun k => k = i ∨ D k) st := hstep.2
      have hfr' : ∃ F ∈ frs sl, F.i = i ∨ F.j = i := by
        have := List.any_eq_true.1 hfr
        simpa using this
      obtain ⟨F, hFm, hFi | hFj⟩ := hfr'
      · subst hFi
        have hse := (frs_mem hFm).1
        rw [hs] at hse; cases hse
        have hj : (hid ((frs sl).map (·.d)) st).tm F.d = .junk := by
          simp only [hid]; rw [if_pos (hds F hFm)]
        refine wpOp_mono ?_ (make_step (Q := Q) ho hso hR hstN hj)
        rintro a' w' ⟨hR', hp', rfl, hsz, hfrm⟩
        have hother : ∀ E ∈ frs sl, E ≠ F → (a.put (some F.d) (.pointer (some ⟨w.heap.size, 0, none⟩))).tmps.getD E.d undef = a.tmps.getD E.d undef := fun E hE hne => by
          rw [put_get, if_neg]
          rintro ⟨e, _⟩
          simp only [Option.some.injEq] at e
          exact hne (huniq E hE F hFm (.inl e.symm))
        have hott : ∀ E ∈ frs sl, (a.put (some F.d) (.pointer (some ⟨w.heap.size, 0, none⟩))).tmps.getD E.t undef = a.tmps.getD E.t undef := fun E hE => by
          rw [put_get, if_neg]
          rintro ⟨e, _⟩
          simp only [Option.some.injEq] at e
          exact hdt E hE F hFm e
        have hold : ∀ E ∈ frs sl, E ≠ F → D E.i → ∃ b, b < w.heap.size ∧ a.tmps.getD E.d undef = .pointer (some ⟨b, 0, none⟩) := by
          intro E hE hne hDi
          by_cases hDj : D E.j
          · obtain ⟨b, hb⟩ := hp.full E hE hDj; exact ⟨b, hb.lt, hb.tm⟩
          · obtain ⟨b, hb⟩ := hp.zero E hE hDi hDj; exact ⟨b, hb.lt, hb.tm⟩
        have hnF : ∀ E ∈ frs sl, E.i ≠ F.i → E ≠ F := fun E _ h e => h (by rw [e])
        refine ⟨st, G, hmid, hR', ⟨fun E hE h1 h2 => ?_, fun E hE h1 => ?_, fun E hE E' hE' h1 h2 hne => ?_⟩⟩
        · by_cases e : E.i = F.i
          · have := huniq E hE F hFm (.inr (.inl e))
            subst this
            exact ⟨_, hp'⟩
          · obtain ⟨b, hb⟩ := hp.zero E hE (h1.resolve_left e) (fun h => h2 (.inr h))
            exact ⟨b, hb.world hsz (hfrm _ hb.lt) (hother E hE (hnF E hE e))⟩
        · have h1' : D E.j := h1.resolve_left fun e => hij E hE F hFm e.symm
          have hne : E ≠ F := by
            rintro rfl
            have hjl : E.j < (mainL sl).length := by rw [hml]; exact lt_of_get (frs_mem hFm).2
            exact hnd' (reach_done k1 hm.closed deep E.i E.j hjl (hm.closed E.j hjl h1') (hF E hFm).1)
          obtain ⟨b, hb⟩ := hp.full E hE h1'
          refine ⟨b, ?_⟩
          have : sto E (a.put (some F.d) (.pointer (some ⟨w.heap.size, 0, none⟩))) = sto E a := by simp only [sto, hott E hE]
          rw [this]
          exact hb.world hsz (hfrm _ hb.lt) (hother E hE hne)
        · by_cases e : E = F
          · subst e
            have e' : E' ≠ E := fun h => hne (by rw [h])
            have hD' : D E'.i := h2.resolve_left fun h => e' (huniq E' hE' E hE (.inr (.inl h)))
            obtain ⟨b, hb1, hb2⟩ := hold E' hE' e' hD'
            rw [hother E' hE' e', hb2, hp'.tm]
            intro h
            simp only [Value.pointer.injEq, Option.some.injEq, Addr.mk.injEq] at h
            omega
          · have hD : D E.i := h1.resolve_left fun h => e (huniq E hE F hFm (.inr (.inl h)))
            by_cases e' : E' = F
            · subst e'
              obtain ⟨b, hb1, hb2⟩ := hold E hE e hD
              rw [hother E hE e, hb2, hp'.tm]
              intro h
              simp only [Value.pointer.injEq, Option.some.injEq, Addr.mk.injEq] at h
              omega
            · have hD' : D E'.i := h2.resolve_left fun h => e' (huniq E' hE' F hFm (.inr (.inl h)))
              rw [hother E hE e, hother E' hE' e']
              exact hp.inj E hE E' hE' hD hD' hne
      · subst hFj
        have hse := (frs_mem hFm).2
        rw [hs] at hse; cases hse
        have hDi : D F.i := reach_done k1 hm.closed deep F.i F.j hin hr (hF F hFm).1
        obtain ⟨b, hb⟩ := hp.zero F hFm hDi hnd'
        obtain ⟨ys, hc, hl, hle⟩ := hfill F hFm
        obtain ⟨k, u, q1, q2, q3⟩ := hwr F hFm hr
        have htm : (hid ((frs sl).map (·.d)) st).tm F.t = (f (mainL sl).length).tm F.t := by
          simp only [hid]
          rw [if_neg (htds F hFm)]
          exact hm.done F.t k u q1 q2 q3
        refine wpOp_mono ?_ (fill_step (Q := Q) ho hso hR hb (by rw [htm]; exact hc) hl hle)
        rintro a' w' ⟨hR', hp', rfl, hsz, hfrm⟩
        have hoth : ∀ E ∈ frs sl, E ≠ F → ∀ b' vs, D E.i → Pend w0 G a' w E.d b' vs → Pend w0 G a' w' E.d b' vs := by
          intro E hE hne b' vs hDE hb'
          refine hb'.world hsz (hfrm _ fun e => ?_) rfl
          have := hp.inj E hE F hFm hDE hDi (fun h => hne (huniq E hE F hFm (.inl h)))
          rw [hb'.tm, hb.tm, e] at this
          exact this rfl
        refine ⟨st, G, hmid, hR', ⟨fun E hE h1 h2 => ?_, fun E hE h1 => ?_, fun E hE E' hE' h1 h2 hne => ?_⟩⟩
        · have hD : D E.i := h1.resolve_left (hij F hFm E hE)
          have hne : E ≠ F := fun e => h2 (.inl (by rw [e]))
          obtain ⟨b', hb'⟩ := hp.zero E hE hD fun h => h2 (.inr h)
          exact ⟨b', hoth E hE hne _ _ hD hb'⟩
        · by_cases e : E.j = F.j
          · have := huniq E hE F hFm (.inr (.inr e))
            subst this
            exact ⟨b, hp'⟩
          · have hD := h1.resolve_left e
            have hjl : E.j < (mainL sl).length := by rw [hml]; exact lt_of_get (frs_mem hE).2
            have hDE : D E.i := reach_done k1 hm.closed deep E.i E.j hjl (hm.closed E.j hjl hD) (hF E hE).1
            obtain ⟨b', hb'⟩ := hp.full E hE hD
            exact ⟨b', hoth E hE (fun h => e (by rw [h])) _ _ hDE hb'⟩
        · exact hp.inj E hE E' hE' (h1.resolve_left (hij F hFm E hE)) (h2.resolve_left (hij F hFm E' hE')) hne
  · rintro D a w hall ⟨st, G, hm, hR, hp⟩
    have hst := mid_end hf hm fun i hi => hall i (by omega)
    subst hst
    have hDi : ∀ F ∈ frs sl, D F.i := fun F hFm => hall _ (by rw [← hlen]; exact lt_of_get (frs_mem hFm).1)
    have hDj : ∀ F ∈ frs sl, D F.j := fun F hFm => hall _ (by rw [← hlen]; exact lt_of_get (frs_mem hFm).2)
    obtain ⟨s', G', h1, h2⟩ := adopt_all _ _ G hnd hdt hKf hR (fun F hFm => hp.full F hFm (hDj F hFm)) (fun F hFm E hE => hp.inj F hFm E hE (hDi F hFm) (hDi E hE))
    exact hK _ _ _ _ h1 h2
  · have hz : ∀ i, ¬ ((Array.replicate ops.size false).getD i false = true) := fun i => by
      rw [Array.getD_eq_getD_getElem?, Array.getElem?_replicate]
      split <;> simp
    refine ⟨st, G, by rw [← hf0]; exact mid_start _ hz, hRh, ⟨fun F _ h => absurd h (hz _), fun F _ h => absurd h (hz _), fun F _ E _ h => absurd h (hz _)⟩⟩
end
end Go.Proofs.YtbmmdkbinlnogaaDoor.Aw
