/- Parts of the proofs of Eo. -/
import Derived.Test.YtbmmdkbinlnogaaDoorQEoAH
namespace Go.Proofs.YtbmmdkbinlnogaaDoor.Aw
open Go
set_option linter.unusedSimpArgs false
set_option linter.unusedVariables false
set_option linter.unusedSimpArgs false
set_option linter.unusedVariables false
def G1 (G : Gh) (id g : Nat) : Gh := ⟨fun b => G.S b ∨ G.ob id g = some (some b), fun i k => if i = id then none else G.ob i k⟩
theorem ext_G1 {c : Nat} (G : Gh) (w : World) (id g : Nat) : Ext c G w (G1 G id g) w :=
  ⟨fun _ h => .inl h, fun _ _ => rfl, fun _ _ h => h, fun i k ob _ h => by simp only [G1] at h; split at h <;> simp_all⟩
section
variable {G : Gh} {w : World} {c id g : Nat} {nl : Bool} {cells : List AV} {M : Nat → Prop} {hp : Hp}
mutual
theorem fzo_sound (hH : Heap c M G hp w) (hid : hp id = some (g, .row nl cells)) (hfree : AV.free.freeL cells = true) : ∀ (x : AV) (v : Value), x.gl c → Rd G w x v → Rd (G1 G id g) w (fzo id g nl cells x) v
  | .junk, _, _, _ => by simp [fzo, Rd]
  | .sc u, v, _, hr => by simpa [fzo, Rd] using hr
  | .agg xs, v, hg, hr => by
    simp only [Rd, fzo] at hr ⊢
    obtain ⟨cs, rfl, hr, h1⟩ := hr
    exact ⟨cs, rfl, fzoL_sound hH hid hfree xs cs (by simpa [AV.gl] using hg) hr, h1⟩
  | .tup xs, v, hg, hr => by
    simp only [Rd, fzo] at hr ⊢
    obtain ⟨cs, rfl, hr⟩ := hr
    exact ⟨cs, rfl, fzoL_sound hH hid hfree xs cs (by simpa [AV.gl] using hg) hr⟩
  | .sl nl es xs, v, hg, hr => by
    simp only [fzo]
    exact Rd.mono (ext_G1 G w id g) _ v hg hr
  | .fp y off, v, hg, hr => by
    simp only [fzo]
    exact Rd.mono (ext_G1 G w id g) _ v hg hr
  | .mp i k, v, hg, hr => by
    simp only [fzo]
    split
    · simp [Rd]
    · exact Rd.mono (ext_G1 G w id g) _ v hg hr
  | .clo f xs, v, hg, hr => by
    simp only [Rd, fzo] at hr ⊢
    obtain ⟨cs, rfl, hr⟩ := hr
    exact ⟨cs, rfl, fzoL_sound hH hid hfree xs cs (by simpa [AV.gl] using hg) hr⟩
  | .own i k es lo n, v, hg, hr => by
    simp only [fzo]
    by_cases e : i = id ∧ k = g
    · obtain ⟨rfl, rfl⟩ := e
      rw [if_pos ⟨rfl, rfl⟩]
      split
      · rename_i hlen
        obtain ⟨ob, hob, hnl, hnil, hrow⟩ := hH.rowC _ _ _ _ hid
        simp only [Rd] at hr
        have hr := hr.2 _ hob
        cases ob with
        | none =>
          obtain ⟨rfl, rfl, rfl⟩ := hr
          simp only [Rd]
          refine ⟨none, 0, 0, [], rfl, rfl, Nat.le_refl _, ?_, by simp [hnl], fun _ => rfl, fun a ha => by simp at ha⟩
          cases es <;> simp [chunks, RdL]
        | some b =>
          obtain ⟨cap, o, E, kk, rfl, q1, q2, q3, q4⟩ := hr
          obtain ⟨_, _, vs, cs, E', hb, hvs, hcs, h1⟩ := hrow b rfl ⟨_, q3⟩
          have hl := hvs.length
          have hle : n * esz es ≤ (vs.drop lo).length := by simp; omega
          have hvs' := RdL.mono (ext_G1 G w i k) _ _ (glL_of_free c _ hfree) hvs
          simp only [Rd]
          refine ⟨some ⟨b, o, none⟩, n, cap, chunksV es n (vs.drop lo), rfl, (length_chunksV _ _ _ hle).symm, q1, (hvs'.drop lo).chunks (fun u hu => h1 u (List.mem_of_mem_drop hu)), ?_, by simp, ?_⟩
          · constructor
            · intro h; have := hnl.1 h; simp at this
            · intro h; simp at h
          · intro a ha _
            simp at ha
            subst ha
            refine ⟨rfl, .inr hob, fun i' v hv => ?_⟩
            obtain ⟨a1, a2, a3⟩ := chunksV_get (fun v hv => h1 v (List.mem_of_mem_drop hv)) hle hv
            refine ⟨a2, fun j u hu => ?_⟩
            have e : o = lo := by rcases q2 with q2 | q2 <;> omega
            subst e
            rw [a3, List.getElem?_take] at hu
            split at hu
            · have : vs[o + (i' * esz es + j)]? = some u := by simpa [Nat.add_assoc] using hu
              have := hcs _ _ this
              simp only [World.cell?, hb]
              simpa [Nat.add_assoc] using this
            · simp at hu
      · simp [Rd]
    · rw [if_neg e]
      exact Rd.mono (ext_G1 G w id g) _ v hg hr
  | .op i k off, v, hg, hr => by
    simp only [fzo]
    by_cases e : i = id ∧ k = g
    · obtain ⟨rfl, rfl⟩ := e
      rw [if_pos ⟨rfl, rfl⟩]
      obtain ⟨ob, hob, hnl, hnil, hrow⟩ := hH.rowC _ _ _ _ hid
      simp only [Rd] at hr
      obtain ⟨b, rfl, rfl, hsh⟩ := hr.2 _ hob
      obtain ⟨_, _, vs, cs, E', hb, hvs, hcs, h1⟩ := hrow b rfl hsh
      have hvs' := RdL.mono (ext_G1 G w i k) _ _ (glL_of_free c _ hfree) hvs
      simp only [Rd]
      refine ⟨.agg vs.toArray, b, 0, ⟨vs, rfl, hvs', h1⟩, by simp, .inr hob, fun j u hu => ?_⟩
      simp [Value.cells] at hu
      have := hcs _ _ hu
      simp only [World.cell?, hb]
      simpa using this
    · rw [if_neg e]
      exact Rd.mono (ext_G1 G w id g) _ v hg hr
theorem fzoL_sound (hH : Heap c M G hp w) (hid : hp id = some (g, .row nl cells)) (hfree : AV.free.freeL cells = true) : ∀ (xs : List AV) (vs : List Value), AV.gl.glL c xs → RdL G w xs vs → RdL (G1 G id g) w (fzo.fzoL id g nl cells xs) vs
  | [], vs, _, hr => by simpa [fzo.fzoL, RdL] using hr
  | x :: xs, vs, hg, hr => by
    simp only [fzo.fzoL, RdL] at hr ⊢
    obtain ⟨v, r, rfl, h1, h2⟩ := hr
    simp only [AV.gl.glL] at hg
    exact ⟨v, r, rfl, fzo_sound hH hid hfree x v hg.1 h1, fzoL_sound hH hid hfree xs r hg.2 h2⟩
end
end
theorem heap_fz {G : Gh} {w : World} {c id g : Nat} {nl : Bool} {cells : List AV} {M : Nat → Prop} {hp : Hp} (hH : Heap c M G hp w) (hid : hp id = some (g, .row nl cells)) :
    Heap c M (G1 G id g) (updH hp id none) w ∧ ∀ b, (G1 G id g).S b → G.S b ∨ M b := by
  have one : ∀ b, G.ob id g = some (some b) → M b ∧ b < w.heap.size := fun b hb => by
    obtain ⟨ob, k1, _, _, k4⟩ := hH.row _ _ _ _ hid
    rw [hb] at k1; cases k1
    obtain ⟨_, q2, _, _, q3⟩ := k4 b rfl
    exact ⟨q2, q3.lt⟩
  have hE := ext_G1 (c := c) G w id g
  refine ⟨⟨?_, ?_, ?_, ?_, ?_⟩, fun b hb => hb.elim .inl fun h => .inr (one b h).1⟩
  · rintro b (hb | hb)
    · exact hH.lt b hb
    · exact (one b hb).2
  · intro i k ob ho
    simp only [G1] at ho
    split at ho
    · simp at ho
    · rename_i e
      obtain ⟨o, h1⟩ := hH.live _ _ _ ho
      exact ⟨o, by unfold updH; rw [if_neg e]; exact h1⟩
  · intro i k nl' cs ho
    unfold updH at ho
    split at ho
    · simp at ho
    · exact hH.gl _ _ _ _ ho
  · intro i k i' k' b h1 h2
    simp only [G1] at h1 h2
    split at h1
    · simp at h1
    · split at h2
      · simp at h2
      · exact hH.inj _ _ _ _ _ h1 h2
  · intro i k nl' cs ho
    unfold updH at ho
    split at ho
    · simp at ho
    · rename_i e
      obtain ⟨ob, k1, k2, k3, k4⟩ := hH.row _ _ _ _ ho
      refine ⟨ob, by simp [G1, e, k1], k2, k3, fun b hb => ?_⟩
      obtain ⟨q1, q2, us, q4, q3⟩ := k4 b hb
      refine ⟨?_, q2, us, RdL.mono hE _ _ (hH.gl _ _ _ _ ho).2 q4, q3⟩
      rintro (h | h)
      · exact q1 h
      · exact e (hH.inj _ _ _ _ _ (by rw [k1, hb]) h)
theorem fcall_sound {P : Program} [Tabs P] {G : Gh} {w : World} {c : Nat} {M : Nat → Prop} {hp : Hp} {f : Nat} {ins : List AV} {vs : List Value} {r : AV} {hp' : Hp} {c' : Nat} (hT : TabOk P G.S w) (hH : Heap c M G hp w) (hMx : ∀ b, w.heap.size ≤ b → M b) (hg : AV.gl.glL c ins) (hr : RdL G w ins vs)
    (h : FCallOk P f ins hp c r hp' c') : Calls P f vs.toArray w fun e w' => ∃ v, e = .returned v ∧ Res c M G w r hp' c' v w' := by
  obtain ⟨id, g, nl, cells, hid, hcf, hfree, hc, e1, e2⟩ := h
  rw [e1, e2]
  obtain ⟨hH1, hS1⟩ := heap_fz hH hid
  have hE1 := ext_G1 (c := c) G w id g
  have hrd := fzoL_sound hH hid hcf _ _ hg hr
  have hrd : RdL ⟨(G1 G id g).S, fun _ _ => none⟩ w (fzo.fzoL id g nl cells ins) vs := RdL.of_free (G := G1 G id g) (G' := ⟨(G1 G id g).S, fun _ _ => none⟩) (fun _ h => h) (fun _ _ => rfl) _ _ hfree hrd
  refine (hc w (G1 G id g).S _ (hT.mono (fun _ h => .inl h) (fun _ _ => rfl)) hH1.lt hrd).mono ?_
  rintro e w' ⟨v, S', rfl, hk, hS, hS', hlt, hof, hr'⟩
  refine ⟨v, rfl, ?_⟩
  obtain ⟨hE, hH2⟩ := heap_grow hH1 hk (fun b => S' b ∧ w.heap.size ≤ b) (fun b hb => ⟨hb.2, hlt b hb.1⟩)
  refine ⟨_, hE1.trans (Nat.le_refl _) hE, hH2, ?_, gl_of_free _ _ hof, Nat.le_refl _, hk.mono (Nat.le_refl _) (fun _ _ h => h.elim), fun b hb => ?_⟩
  · exact Rd.of_free (G := ⟨S', fun _ _ => none⟩) (fun b hb => (hS' b hb).elim (fun h => Or.inl h) (fun h => Or.inr ⟨hb, h⟩)) (fun _ _ => rfl) _ _ hof hr'
  · rcases hb with hb | hb
    · rcases hS1 b hb with h | h
      · exact .inl h
      · exact .inr (.inr h)
    · exact .inr (.inl hb.2)
end Go.Proofs.YtbmmdkbinlnogaaDoor.Aw
