/- Parts of the proofs of Eo. -/
import Derived.Test.YtbmmdkbinlnogaaDoorQEoAP
namespace Go.Proofs.YtbmmdkbinlnogaaDoor.Aw
open Go
set_option linter.unusedSimpArgs false
set_option linter.unusedVariables false
section
variable {P : Program} [Tabs P] {w0 : World} {M : Nat → Prop} {Z : Beg} {G : Gh} {st : ASt} {a : Act} {w : World}
theorem R.heapEq (hR : R P w0 M Z G st a w) {w' : World} (hh : w'.heap = w.heap) (ho : w'.os = w.os) (ht : w'.tape = w.tape) (hp : w'.output = w.output) : R P w0 M Z G st a w' := by
  have hE : Ext st.gc G w G w' := ⟨fun _ h => h, fun _ _ => by rw [hh], fun b p h => by simpa only [World.shape?, hh] using h, fun _ _ _ _ h => h⟩
  refine ⟨⟨ho.trans hR.keep.os, ht.trans hR.keep.tape, hp.trans hR.keep.output, by rw [hh]; exact hR.keep.size, fun k h1 h2 => by rw [hh]; exact hR.keep.block k h1 h2⟩, ⟨fun b hb => by rw [hh]; exact hR.heap.lt b hb, hR.heap.live, hR.heap.gl, hR.heap.inj, ?_⟩, hR.size, fun t => Rd.mono hE _ _ (hR.gl t) (hR.tm t), hR.gl, hR.defers, hR.fr, hR.ext.trans hR.lc hE, hR.lc, hR.lc1, hR.tabs.mono hE.S hE.cells⟩
  intro id g nl cells hid
  obtain ⟨ob, h1, h2, h3, h4⟩ := hR.heap.row _ _ _ _ hid
  refine ⟨ob, h1, h2, h3, fun b hb => ?_⟩
  obtain ⟨k1, k2, vs, k4, k3⟩ := h4 b hb
  exact ⟨k1, k2, vs, RdL.mono hE _ _ (hR.heap.gl _ _ _ _ hid).2 k4, by rw [hh]; exact k3⟩
theorem getD_set {l : Array Bool} {i j : Nat} (hj : j < l.size) : (l.setIfInBounds i true).getD j false = if i = j then true else l.getD j false := by
  simp only [Array.getD_eq_getD_getElem?, Array.getElem?_setIfInBounds]
  by_cases e : i = j
  · subst e; simp [hj]
  · simp [e]
omit [Tabs P] in
theorem mapM_get {q : Bool} {N : Nat} {ops : Array Oper} {sl : List SOper} (hsl : ops.toList.mapM (slimO P N q ops) = some sl) : sl.length = ops.size ∧ ∀ (i : Nat) (o : Oper), ops[i]? = some o → ∃ s, sl[i]? = some s ∧ slimO P N q ops o = some s := by
  have key : ∀ (l : List Oper) (r : List SOper), l.mapM (slimO P N q ops) = some r → r.length = l.length ∧ ∀ (i : Nat) (o : Oper), l[i]? = some o → ∃ s, r[i]? = some s ∧ slimO P N q ops o = some s := by
    intro l
    induction l with
    | nil => intro r h; simp at h; subst h; exact ⟨rfl, fun i o hi => by simp at hi⟩
    | cons o l ih =>
      intro r h
      simp only [List.mapM_cons, Option.bind_eq_bind, Option.pure_def] at h
      cases ho : slimO P N q ops o with
      | none => simp [ho] at h
      | some s =>
        cases hr : l.mapM (slimO P N q ops) with
        | none => simp [ho, hr] at h
        | some r' =>
          simp [ho, hr] at h; subst h
          obtain ⟨k1, k2⟩ := ih r' hr
          refine ⟨by simp [k1], fun i u hi => ?_⟩
          cases i with
          | zero => simp at hi; subst hi; exact ⟨s, by simp, ho⟩
          | succ i => simpa using k2 i u (by simpa using hi)
  obtain ⟨k1, k2⟩ := key _ _ hsl
  exact ⟨by rw [k1, Array.length_toList], fun i o hi => k2 i o (by simpa using hi)⟩
def Fits (P : Program) (N : Nat) (ops : Array Oper) (sl : List SOper) : Prop := sl.length = ops.size ∧ ∀ (i : Nat) (o : Oper), ops[i]? = some o → ∃ s q, sl[i]? = some s ∧ slimO P N q ops o = some s
omit [Tabs P] in
theorem fits_one {q : Bool} {ops : Array Oper} {sl : List SOper} {N : Nat} (hsl : ops.toList.mapM (slimO P N q ops) = some sl) : Fits P N ops sl := by
  have h := mapM_get hsl
  exact ⟨h.1, fun i o hi => by obtain ⟨s, h1, h2⟩ := h.2 i o hi; exact ⟨s, q, h1, h2⟩⟩
def keepS (ops : Array Oper) (sl : List SOper) (i : Nat) (s : SOper) : Bool :=
  (match s.op with | .call true _ _ => true | _ => false) && sl.zipIdx.all fun (u, j) => i == j || !(u.op.isHv || u.op.touches) || reach ops deep i j || reach ops deep j i
def mixS (ops : Array Oper) (sl sl' : List SOper) : List SOper := (sl.zip sl').zipIdx.map fun p => if keepS ops sl p.2 p.1.1 then p.1.1 else p.1.2
omit [Tabs P] in
theorem fits_mix {ops : Array Oper} {sl sl' : List SOper} {N : Nat} (h : ops.toList.mapM (slimO P N false ops) = some sl) (h' : ops.toList.mapM (slimO P N true ops) = some sl') : Fits P N ops (mixS ops sl sl') := by
  have g := mapM_get h
  have g' := mapM_get h'
  refine ⟨by simp [mixS, g.1, g'.1], fun i o hi => ?_⟩
  obtain ⟨s, h1, h2⟩ := g.2 i o hi
  obtain ⟨s', h1', h2'⟩ := g'.2 i o hi
  have hz : (sl.zip sl').zipIdx[i]? = some ((s, s'), i) := by
    rw [List.getElem?_zipIdx, (List.getElem?_zip_eq_some (z := (s, s'))).2 ⟨h1, h1'⟩]; simp
  have hm : (mixS ops sl sl')[i]? = some (if keepS ops sl i s then s else s') := by
    rw [mixS, List.getElem?_map, hz]; rfl
  by_cases c : keepS ops sl i s = true
  · exact ⟨s, false, by rw [hm, if_pos c], h2⟩
  · exact ⟨s', true, by rw [hm, if_neg c], h2'⟩
theorem any_sound {ops : Array Oper} {sl : List SOper} {f : Nat → ASt} {Q : Exit → Act → World → Prop} {N : Nat} (hsl : Fits P N ops sl) (hok : drawOk ops sl = true) (hf : Runs P sl f) (hN : (f 0).N = N)
    (hQ : ∀ G a w, R P w0 M Z G (f sl.length) a w → Q .normal a w) : ∀ (fuel : Nat) (listed : Array Bool) (st : ASt) (G : Gh) (a : Act) (w : World), listed.size = ops.size → ((List.range ops.size).filter fun i => !listed.getD i false).length ≤ fuel →
      Mid P ops sl f (fun i => listed.getD i false = true) st → R P w0 M Z G st a w → wpAny P .any ops Q fuel listed a w := by
  have hlen : sl.length = ops.size := hsl.1
  have hget := hsl.2
  obtain ⟨k1, _⟩ := drawOk_spec hok
  have hbind : ∀ (i : Nat) (o : Oper), ops[i]? = some o → ∀ k, k ∈ binders ops i ↔ ∃ e ∈ o.after, Region.binds .any e = true ∧ e.on = k := by
    intro i o hi k
    simp [binders, hi, and_assoc]
  have hend : ∀ (listed : Array Bool) (st : ASt) (G : Gh) (a : Act) (w : World), listed.size = ops.size → Mid P ops sl f (fun i => listed.getD i false = true) st → R P w0 M Z G st a w → Region.ready .any ops listed = [] → Q .normal a w := by
    intro listed st G a w hls hm hR hr
    have hall : ∀ n i, i < n → i < sl.length → listed.getD i false = true := by
      intro n
      induction n with
      | zero => intro i hi; omega
      | succ n ih =>
        intro i hi hil
        by_cases hd : listed.getD i false = true
        · exact hd
        · exfalso
          have hio : i < ops.size := by omega
          have ho : ops[i]? = some ops[i] := Array.getElem?_eq_getElem hio
          have : i ∈ Region.ready .any ops listed := by
            rw [mem_ready]
            refine ⟨?_, ops[i], ho, fun e he hb => ?_⟩
            · have hli : i < listed.size := by omega
              rw [Array.getD_eq_getD_getElem?, Array.getElem?_eq_getElem hli] at hd ⊢
              simpa using hd
            · have hk : e.on ∈ binders ops i := (hbind i _ ho _).2 ⟨e, he, hb, rfl⟩
              have := k1 i hil _ hk
              exact ih _ (by omega) (by omega)
          rw [hr] at this
          simp at this
    have := mid_end hf hm fun i hi => hall (i + 1) i (by omega) hi
    subst this
    exact hQ G a w hR
  intro fuel
  induction fuel with
  | zero =>
    intro listed st G a w hls hcnt hm hR
    have hr : Region.ready .any ops listed = [] := by
      cases hrr : Region.ready .any ops listed with
      | nil => rfl
      | cons i l =>
        exfalso
        have hi : i ∈ Region.ready .any ops listed := by rw [hrr]; simp
        rw [mem_ready] at hi
        obtain ⟨h1, o, ho, _⟩ := hi
        have hio : i < ops.size := by
          rcases Nat.lt_or_ge i ops.size with h | h
          · exact h
          · rw [Array.getElem?_eq_none h] at ho; simp at ho
        have : i ∈ (List.range ops.size).filter fun i => !listed.getD i false := by
          rw [List.mem_filter]
          refine ⟨List.mem_range.2 hio, ?_⟩
          have hli : i < listed.size := by omega
          rw [Array.getD_eq_getD_getElem?, Array.getElem?_eq_getElem hli] at h1 ⊢
          simpa using h1
        have hl := List.length_pos_of_mem this
        omega
    exact ⟨hr, hend listed st G a w hls hm hR hr⟩
  | succ fuel ih =>
    intro listed st G a w hls hcnt hm hR
    refine ⟨fun hr => hend listed st G a w hls hm hR hr, fun i hi => ?_⟩
    rw [mem_ready] at hi
    obtain ⟨h1, o, ho, h2⟩ := hi
    have hio : i < ops.size := by
      rcases Nat.lt_or_ge i ops.size with h | h
      · exact h
      · rw [Array.getElem?_eq_none h] at ho; simp at ho
    have hli : i < listed.size := by omega
    have h1' : listed.getD i false = false := by
      rw [Array.getD_eq_getD_getElem?, Array.getElem?_eq_getElem hli] at h1 ⊢
      simpa using h1
    obtain ⟨s, q, hs, hso⟩ := hget i o ho
    have hstep := mid_step hok hf hm hs (by rw [h1']; simp) (fun k hk => by
      obtain ⟨e, he, hb, rfl⟩ := (hbind i o ho k).1 hk
      exact h2 e he hb)
    have hstN : st.N = N := hm.N.trans hN
    have := gstep_sound (Q := Q) ho (by rw [hstN]; exact hso) hR hstep
    refine wpOp_mono ?_ this
    rintro a' w' ⟨st', G', hm', hR'⟩
    refine ih _ st' G' a' w' (by rw [Array.size_setIfInBounds]; exact hls) ?_ ?_ hR'
    · have hsub : ((List.range ops.size).filter fun k => !(listed.setIfInBounds i true).getD k false).length < ((List.range ops.size).filter fun k => !listed.getD k false).length := by
        have e1 : (List.range ops.size).filter (fun k => !(listed.setIfInBounds i true).getD k false) = ((List.range ops.size).filter fun k => !listed.getD k false).filter fun k => k != i := by
          rw [List.filter_filter]
          refine List.filter_congr fun k hk => ?_
          have hkl : k < listed.size := by rw [hls]; exact List.mem_range.1 hk
          rw [getD_set hkl]
          by_cases e : i = k
          · subst e; simp
          · simp [e, Ne.symm e]
        rw [e1]
        have hmem : i ∈ (List.range ops.size).filter fun k => !listed.getD k false := by
          rw [List.mem_filter]; exact ⟨List.mem_range.2 hio, by rw [h1']; rfl⟩
        exact List.length_filter_lt_length_iff_exists.2 ⟨i, hmem, by simp⟩
      omega
    · have hiff : ∀ k, k < ops.size → ((listed.setIfInBounds i true).getD k false = true ↔ (k = i ∨ listed.getD k false = true)) := by
        intro k hk
        rw [getD_set (by rw [hls]; exact hk)]
        by_cases e : i = k
        · subst e; simp
        · simp [e, Ne.symm e]
      refine ⟨?_, ?_, ?_, ?_, hm'.N⟩
      · intro j hj hd k hk
        have hk' := k1 j hj k hk
        exact (hiff k (by omega)).2 (hm'.closed j hj ((hiff j (by omega)).1 hd) k hk)
      · intro t j u hj hu hd
        exact hm'.done t j u hj hu ((hiff j (by have := lt_of_get hj; omega)).1 hd)
      · intro t ht
        exact hm'.ahead t fun j u hj hu hd => ht j u hj hu ((hiff j (by have := lt_of_get hj; omega)).2 hd)
      · obtain ⟨m, q1, q2, q3, q4⟩ := hm'.heap
        exact ⟨m, q1, q2, q3, fun j u hj hu => (hiff j (by have := lt_of_get hj; omega)).trans (q4 j u hj hu)⟩
theorem draw_sound {ops : Array Oper} {sl : List SOper} {K : ASt → Prop} {Q : Exit → Act → World → Prop} {id N : Nat} (hmix : P.follows .mixedOrders = true) (hQ : ¬ LetsOut Q) (hsl : Fits P N ops sl) (hok : drawOk ops sl = true)
    (hK : ∀ st G a w, K st → R P w0 M Z G st a w → Q .normal a w) (hN : st.N = N) (hR : R P w0 M Z G st a w) (h : AOps P sl K st) : wpR P (Code.region id ops true) Q a w := by
  obtain ⟨f, hf0, hKf, hf⟩ := h.runs
  refine wpR_region_any hmix hQ ?_
  have hR' : R P w0 M Z G st a { w with drawn := w.drawn + 1 } := hR.heapEq rfl rfl rfl rfl
  refine any_sound hsl hok hf (by rw [hf0]; exact hN) (fun G a w h => hK _ G a w hKf h) ops.size (Array.replicate ops.size false) st G a _ (by simp) (by
    exact Nat.le_trans (List.length_filter_le _ _) (by simp)) ?_ hR'
  rw [← hf0]
  refine mid_start _ fun i => ?_
  rw [Array.getD_eq_getD_getElem?, Array.getElem?_replicate]
  split <;> simp
end
end Go.Proofs.YtbmmdkbinlnogaaDoor.Aw
