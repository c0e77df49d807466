/- Parts of the proofs of Eo. -/
import Derived.Test.YtbmmdkbinlnogaaDoorQEoAE
namespace Go.Proofs.YtbmmdkbinlnogaaDoor.Aw
open Go
set_option linter.unusedSimpArgs false
set_option linter.unusedVariables false
def Res (c : Nat) (M : Nat → Prop) (G : Gh) (w : World) (r : AV) (hp' : Hp) (c' : Nat) (x : Value) (w' : World) : Prop :=
  ∃ G', Ext c G w G' w' ∧ Heap c' M G' hp' w' ∧ Rd G' w' r x ∧ r.gl c' ∧ c ≤ c' ∧ Keep w.heap.size M w w' ∧ ∀ b, G'.S b → G.S b ∨ w.heap.size ≤ b ∨ M b
section
variable {P : Program} {G : Gh} {w : World} {c : Nat} {M : Nat → Prop} {hp : Hp}
theorem Res.same (hH : Heap c M G hp w) {r : AV} {x : Value} (h : Rd G w r x) (hg : r.gl c) : Res c M G w r hp c x w :=
  ⟨G, Ext.refl _ _ _, hH, h, hg, Nat.le_refl _, Keep.refl _ _ _, fun _ h => .inl h⟩
theorem list_set_append (l : List Value) (k : Nat) (v : Value) (h : k < l.length) : l.set k v = l.take k ++ v :: l.drop (k + 1) := List.set_eq_take_append_cons_drop.trans (by simp [h])
theorem foldl_set (off : Nat) : ∀ (vs : List Value) (i : Nat) (cells : Array Value), off + i + vs.length ≤ cells.size →
    ((vs.zipIdx i).foldl (fun cs (c, j) => cs.setIfInBounds (off + j) c) cells).toList = cells.toList.take (off + i) ++ vs ++ cells.toList.drop (off + i + vs.length)
  | [], i, cells, _ => by simp
  | v :: vs, i, cells, h => by
    simp only [List.length_cons] at h
    simp only [List.zipIdx_cons, List.foldl_cons]
    rw [foldl_set off vs (i + 1) _ (by simp; omega)]
    have hlt : off + i < cells.toList.length := by simp; omega
    rw [Array.toList_setIfInBounds, list_set_append _ _ _ hlt]
    have h1 : (cells.toList.take (off + i)).length = off + i := by simp; omega
    have e1 : off + (i + 1) = (cells.toList.take (off + i)).length + 1 := by omega
    have e2 : off + (i + 1) + vs.length = (cells.toList.take (off + i)).length + (1 + vs.length) := by omega
    rw [e2, e1, List.take_length_add_append, List.drop_length_add_append]
    simp only [List.take_succ_cons, List.take_zero, List.append_assoc, List.cons_append, List.nil_append]
    rw [show 1 + vs.length = vs.length + 1 from by omega, List.drop_succ_cons, List.drop_drop]
    simp only [List.length_cons]
    rw [show off + i + 1 + vs.length = off + i + (vs.length + 1) from by omega]
theorem foldl_set_array (off : Nat) (a : Array Value) (cells : Array Value) (h : off + a.size ≤ cells.size) :
    (a.zipIdx.foldl (fun cs (c, j) => cs.setIfInBounds (off + j) c) cells).toList = cells.toList.take off ++ a.toList ++ cells.toList.drop (off + a.size) := by
  rw [← Array.foldl_toList, Array.toList_zipIdx]
  simpa using foldl_set off a.toList 0 cells (by simpa using h)
def placesOk (place : Nat → Option (Nat × Nat)) : List (Nat × Operand) → List (Nat × Nat × Operand) → Prop
  | [], ps => ps = []
  | p :: r, ps => ∃ off n q, ps = (off, n, p.2) :: q ∧ place p.1 = some (off, n) ∧ placesOk place r q
theorem fill_sound {ρ : Operand → Value} {e : Operand → AV} (hρ : ∀ x, Rd G w (e x) (ρ x)) (hgl : ∀ x, (e x).gl c) {place : Nat → Option (Nat × Nat)} : ∀ (parts : List (Nat × Operand)) (ps : List (Nat × Nat × Operand)) (cells : Array Value) (acs : List AV),
    placesOk place parts ps → RdL G w acs cells.toList → (∀ u ∈ cells.toList, u.oneCell' = true) → AV.gl.glL c acs → (aBuild acs (ps.map fun p => (p.1, p.2.1, e p.2.2))).1 →
    ∃ out, Instr.fill place cells (parts.map fun p => (p.1, ρ p.2)) = some out ∧ Rd G w (aBuild acs (ps.map fun p => (p.1, p.2.1, e p.2.2))).2 (.agg out) ∧ (aBuild acs (ps.map fun p => (p.1, p.2.1, e p.2.2))).2.gl c
  | [], ps, cells, acs, hp, hr, h1, hg, h => by
    simp only [placesOk] at hp
    subst hp
    refine ⟨cells, rfl, ?_, by simpa [aBuild, AV.gl] using hg⟩
    simp only [List.map_nil, aBuild, Rd]
    exact ⟨cells.toList, by simp, hr, h1⟩
  | p :: parts, ps, cells, acs, hp, hr, h1, hg, h => by
    simp only [placesOk] at hp
    obtain ⟨off, n, q, rfl, hpl, hp⟩ := hp
    simp only [List.map_cons, aBuild] at h ⊢
    cases hc : cellsA (e p.2) with
    | none => rw [hc] at h; simp [stuckR] at h
    | some ys =>
      rw [hc] at h
      simp only at h ⊢
      obtain ⟨⟨rfl, hfit⟩, h⟩ := h
      have hcr := (hρ p.2).cells hc
      have hco := cells_ones (hρ p.2) hc
      have hlen : (ρ p.2).cells.size = ys.length := by rw [← hcr.length]; simp
      have hl := hr.length
      have hfit' : off + (ρ p.2).cells.size ≤ cells.size := by rw [hlen]; simp at hl; omega
      have hset := foldl_set_array off (ρ p.2).cells cells hfit'
      have hr' : RdL G w (splice off ys acs) ((ρ p.2).cells.zipIdx.foldl (fun cs (c, j) => cs.setIfInBounds (off + j) c) cells).toList := by
        rw [hset, hlen]
        unfold splice
        exact ((hr.take off).append hcr).append (hr.drop _)
      obtain ⟨out, k1, k2, k3⟩ := fill_sound hρ hgl parts q _ (splice off ys acs) hp hr' (by
          rw [hset]
          intro u hu
          simp only [List.mem_append] at hu
          rcases hu with (hu | hu) | hu
          · exact h1 u (List.mem_of_mem_take hu)
          · exact hco u hu
          · exact h1 u (List.mem_of_mem_drop hu)) (by
          unfold splice
          exact glL_append (glL_append (glL_take hg) (cells_gl (hgl p.2) hc)) (glL_drop hg)) h
      refine ⟨out, ?_, k2, k3⟩
      simp only [List.map_cons, Instr.fill, hpl]
      rw [if_neg (by simp [hlen]; simp at hl; omega)]
      exact k1
theorem rdL_sc : ∀ (vs : List Value), RdL G w (vs.map .sc) vs
  | [] => by simp [RdL]
  | v :: vs => by simp only [List.map_cons, RdL]; exact ⟨v, vs, rfl, by simp [Rd], rdL_sc vs⟩
theorem glL_sc : ∀ (vs : List Value), AV.gl.glL c (vs.map .sc)
  | [] => by simp [AV.gl.glL]
  | v :: vs => by simp only [List.map_cons, AV.gl.glL]; exact ⟨by simp [AV.gl], glL_sc vs⟩
theorem aB2s_sound {S D e : TypeId} (hS : P.underlying S = some (.slice e)) (hD : P.underlying D = some .string) (he : P.underlying e = some (.int .u8)) (hH : Heap c M G hp w) {x : AV} {vx : Value}
    (h : (aB2s (frz hp x)).1) (hx : Rd G w x vx) (hg : x.gl c) :
    ∃ v, (convert S D vx).run P w = .ok v w ∧ Rd G w (aB2s (frz hp x)).2 v ∧ (aB2s (frz hp x)).2.gl c := by
  have hf := frz_sound hH x vx hg hx
  unfold aB2s at *
  split at h
  · rename_i nl xs hfr
    rw [hfr] at hf
    simp only [Rd] at hf
    obtain ⟨base, len, cap, vs, rfl, rfl, g2, g3, g4, g5, g6⟩ := hf
    cases base with
    | none =>
      have hc := g5 rfl
      have : vs = [] := List.eq_nil_of_length_eq_zero (by omega)
      subst this
      have hxs : xs = [] := List.eq_nil_of_length_eq_zero (by rw [← g3.length]; rfl)
      subst hxs
      refine ⟨.string .empty, by simp [convert, underlying, hS, hD, he, Conv.bytesToString], ?_, gl_str⟩
      simp only [str, Rd]; rfl
    | some a =>
      have hcells : ∀ (j : Nat) v, vs[j]? = some v → w.cell? (a.add j) = some v := by
        intro j v hv
        obtain ⟨k1, k2, k3⟩ := g6 a rfl (fun e => by rw [e] at hv; simp at hv)
        have hj := k3 j v hv
        have ho := hj.1
        simp only [shp] at ho
        have hcv : v.cells.toList = [v] := by cases v <;> first | rfl | simp [Value.oneCell'] at ho
        have := hj.2 0 v (by rw [hcv]; rfl)
        rw [← spot_mk k1, add_mk]
        simpa [esz] using this
      have hload := run_loadCells_list (P := P) (w := w) a vs hcells
      have hvs : vs = (xs.map fun x => (unu8 x).toNat).map fun n => Value.int .u8 (Int.ofNat n) := by
        apply List.ext_getElem?
        intro i
        cases hi : xs[i]? with
        | none =>
          have : vs[i]? = none := by
            rw [List.getElem?_eq_none_iff] at hi ⊢
            rw [g3.length]; exact hi
          simp [this, hi]
        | some x =>
          obtain ⟨v, hv, hr⟩ := g3.get i x hi
          have hx : x = u8 (unu8 x) := by
            have := congrArg (fun l => l[i]?) h
            simp [hi] at this
            exact this
          rw [hx] at hr
          have := hr.sc_inv
          rw [hv, this]
          simp [hi]
      have hrun := run_bytesToString (P := P) w a vs.length cap (xs.map fun x => ((unu8 x).toNat : Int)) (by
        rw [hload]
        congr 1
        rw [hvs]
        simp)
      refine ⟨_, by simp [convert, underlying, hS, hD, he, hrun]; rfl, ?_, gl_str⟩
      simp only [str, Rd]
      congr 1
      have hfold : ∀ (l : List AV) (acc : ByteArray), ((l.map fun x => ((unu8 x).toNat : Int)).foldl (fun r n => r.push (UInt8.ofNat n.toNat)) acc) = ⟨(acc.data.toList ++ l.map unu8).toArray⟩ := by
        intro l
        induction l with
        | nil => intro acc; simp
        | cons x l ih =>
          intro acc
          simp only [List.map_cons, List.foldl_cons]
          rw [ih]
          simp
      have := hfold xs ByteArray.empty
      simpa using this
  · rename_i hfr
    rw [hfr] at hf
    have hf := hf.sc_inv
    subst hf
    refine ⟨.string .empty, by simp [convert, underlying, hS, hD, he, Conv.bytesToString], ?_, gl_str⟩
    simp only [str, Rd]; rfl
  · simp [stuckR] at h
end
end Go.Proofs.YtbmmdkbinlnogaaDoor.Aw
