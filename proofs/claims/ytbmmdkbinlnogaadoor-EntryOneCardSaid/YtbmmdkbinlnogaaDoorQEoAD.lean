/- Parts of the proofs of Eo. -/
import Derived.Test.YtbmmdkbinlnogaaDoorQEoAC
namespace Go.Proofs.YtbmmdkbinlnogaaDoor.Aw
open Go
set_option linter.unusedSimpArgs false
set_option linter.unusedVariables false
section
variable {P : Program} {G : Gh} {w : World} {c : Nat}
def chunksV : Option Nat → Nat → List Value → List Value
  | none, n, vs => vs.take n
  | some _, 0, _ => []
  | some s, n + 1, vs => .agg (vs.take s).toArray :: chunksV (some s) n (vs.drop s)
theorem length_chunksV (es : Option Nat) (n : Nat) (xs : List Value) (h : n * esz es ≤ xs.length) : (chunksV es n xs).length = n := by
  cases es with
  | none => simp [chunksV, esz] at *; omega
  | some s =>
    induction n generalizing xs with
    | zero => simp [chunksV]
    | succ n ih =>
      simp only [chunksV, List.length_cons]
      rw [ih]
      simp [esz, Nat.add_mul] at *
      omega
theorem RdL.chunks {es : Option Nat} {n : Nat} {xs : List AV} {vs : List Value} (h : RdL G w xs vs) (h1 : ∀ u ∈ vs, u.oneCell' = true) : RdL G w (chunks es n xs) (chunksV es n vs) := by
  cases es with
  | none => simpa [Aw.chunks, chunksV] using h.take n
  | some s =>
    induction n generalizing xs vs with
    | zero => simp [Aw.chunks, chunksV, RdL]
    | succ n ih =>
      simp only [Aw.chunks, chunksV, RdL]
      refine ⟨_, _, rfl, ?_, ih (h.drop s) (fun u hu => h1 u (List.mem_of_mem_drop hu))⟩
      simp only [Rd]
      exact ⟨_, rfl, h.take s, fun u hu => h1 u (List.mem_of_mem_take hu)⟩
theorem chunksV_get {es : Option Nat} {n : Nat} {vs : List Value} (h1 : ∀ v ∈ vs, v.oneCell' = true) (hl : n * esz es ≤ vs.length) {i : Nat} {v : Value} (hi : (chunksV es n vs)[i]? = some v) :
    i < n ∧ shp es v ∧ v.cells.toList = (vs.drop (i * esz es)).take (esz es) := by
  cases es with
  | none =>
    simp only [chunksV] at hi
    rw [List.getElem?_take] at hi
    split at hi
    · rename_i hlt
      have hm := h1 v (List.mem_of_getElem? hi)
      have hc : v.cells = #[v] := by cases v <;> first | rfl | simp [Value.oneCell'] at hm
      refine ⟨hlt, hm, ?_⟩
      rw [hc]
      have hi' : i < vs.length := by
        rcases Nat.lt_or_ge i vs.length with h | h
        · exact h
        · rw [List.getElem?_eq_none h] at hi; simp at hi
      simp only [esz, Nat.mul_one]
      rw [List.drop_eq_getElem_cons hi']
      rw [List.getElem?_eq_getElem hi'] at hi
      simp at hi
      simp [hi]
    · simp at hi
  | some s =>
    induction n generalizing vs i with
    | zero => simp [chunksV] at hi
    | succ n ih =>
      simp only [chunksV] at hi
      simp only [esz, Nat.add_mul] at hl
      cases i with
      | zero =>
        simp at hi
        subst hi
        refine ⟨by omega, ⟨_, rfl, ?_, fun u hu => h1 u (List.mem_of_mem_take hu)⟩, ?_⟩
        · simp; omega
        · simp [Value.cells, esz]
      | succ i =>
        simp only [List.getElem?_cons_succ] at hi
        obtain ⟨a1, a2, a3⟩ := ih (vs := vs.drop s) (fun v hv => h1 v (List.mem_of_mem_drop hv)) (by simp [esz]; omega) hi
        refine ⟨by omega, a2, ?_⟩
        rw [a3]
        simp [esz, Nat.add_mul, Nat.add_comm]
def GF (G : Gh) : Gh := { S := fun b => G.S b ∨ ∃ id g, G.ob id g = some (some b), ob := fun _ _ => none }
theorem ext_GF (G : Gh) (w : World) : Ext c G w (GF G) w := ⟨fun _ h => .inl h, fun _ _ => rfl, fun _ _ h => h, fun _ _ _ _ h => by simp [GF] at h⟩
mutual
theorem frz_sound {M : Nat → Prop} {hp : Hp} (hH : Heap c M G hp w) : ∀ (x : AV) (v : Value), x.gl c → Rd G w x v → Rd (GF G) w (frz hp x) v
  | .junk, _, _, _ => by simp [frz, Rd]
  | .sc u, v, _, hr => by simpa [frz, Rd] using hr
  | .agg xs, v, hg, hr => by
    simp only [Rd, frz] at hr ⊢
    obtain ⟨cs, rfl, hr, h1⟩ := hr
    exact ⟨cs, rfl, frzL_sound hH xs cs (by simpa [AV.gl] using hg) hr, h1⟩
  | .tup xs, v, hg, hr => by
    simp only [Rd, frz] at hr ⊢
    obtain ⟨cs, rfl, hr⟩ := hr
    exact ⟨cs, rfl, frzL_sound hH xs cs (by simpa [AV.gl] using hg) hr⟩
  | .sl nl es xs, v, hg, hr => by
    simp only [frz]
    exact Rd.mono (ext_GF G w) _ v hg hr
  | .fp y off, v, hg, hr => by
    simp only [frz]
    exact Rd.mono (ext_GF G w) _ v hg hr
  | .mp _ _, _, _, _ => by simp [frz, Rd]
  | .clo f xs, v, hg, hr => by
    simp only [Rd, frz] at hr ⊢
    obtain ⟨cs, rfl, hr⟩ := hr
    exact ⟨cs, rfl, frzL_sound hH xs cs (by simpa [AV.gl] using hg) hr⟩
  | .own id g es lo n, v, hg, hr => by
    simp only [frz]
    split
    · rename_i g' nl cells hid
      split
      · rename_i hc
        obtain ⟨rfl, hlen⟩ := hc
        obtain ⟨ob, hob, hnl, hnil, hrow⟩ := hH.rowC _ _ _ _ hid
        have hgl := (hH.gl _ _ _ _ hid).2
        simp only [Rd] at hr
        have hr := hr.2 _ hob
        cases ob with
        | none =>
          obtain ⟨rfl, rfl, rfl⟩ := hr
          simp only [Rd]
          refine ⟨none, 0, 0, [], rfl, rfl, Nat.le_refl _, ?_, by simp [hnl], fun _ => rfl, fun a ha => by simp at ha⟩
          cases es <;> simp [chunks, RdL]
        | some b =>
          obtain ⟨cap, o, E, k, rfl, q1, q2, q3, q4⟩ := hr
          obtain ⟨_, _, vs, cs, E', hb, hvs, hcs, h1⟩ := hrow b rfl ⟨_, q3⟩
          have hl := hvs.length
          have hle : n * esz es ≤ (vs.drop lo).length := by simp; omega
          have hvs' := RdL.mono (ext_GF G w) _ _ hgl hvs
          simp only [Rd]
          refine ⟨some ⟨b, o, none⟩, n, cap, chunksV es n (vs.drop lo), rfl, (length_chunksV _ _ _ hle).symm, q1, (hvs'.drop lo).chunks (fun u hu => h1 u (List.mem_of_mem_drop hu)), ?_, by simp, ?_⟩
          · constructor
            · intro h; have := hnl.1 h; simp at this
            · intro h; simp at h
          · intro a ha _
            simp at ha
            subst ha
            refine ⟨rfl, .inr ⟨id, g', hob⟩, fun i v hv => ?_⟩
            obtain ⟨a1, a2, a3⟩ := chunksV_get (fun v hv => h1 v (List.mem_of_mem_drop hv)) hle hv
            refine ⟨a2, fun j u hu => ?_⟩
            have e : o = lo := by rcases q2 with q2 | q2 <;> omega
            subst e
            rw [a3, List.getElem?_take] at hu
            split at hu
            · have : vs[o + (i * esz es + j)]? = some u := by simpa [Nat.add_assoc] using hu
              have := hcs _ _ this
              simp only [World.cell?, hb]
              simpa [Nat.add_assoc] using this
            · simp at hu
      · simp [Rd]
    · simp [Rd]
  | .op id g off, v, hg, hr => by
    simp only [frz]
    split
    · rename_i g' nl cells hid
      split
      · rename_i hc
        obtain ⟨rfl, hfree⟩ := hc
        obtain ⟨ob, hob, hnl, hnil, hrow⟩ := hH.rowC _ _ _ _ hid
        have hgl := (hH.gl _ _ _ _ hid).2
        simp only [Rd] at hr
        obtain ⟨b, rfl, rfl, hsh⟩ := hr.2 _ hob
        obtain ⟨_, _, vs, cs, E', hb, hvs, hcs, h1⟩ := hrow b rfl hsh
        have hvs' := RdL.mono (ext_GF G w) _ _ hgl hvs
        simp only [Rd]
        refine ⟨.agg vs.toArray, b, 0, ⟨vs, rfl, hvs', h1⟩, by simp, .inr ⟨id, g', hob⟩, fun j u hu => ?_⟩
        simp [Value.cells] at hu
        have := hcs _ _ hu
        simp only [World.cell?, hb]
        simpa using this
      · simp [Rd]
    · simp [Rd]
theorem frzL_sound {M : Nat → Prop} {hp : Hp} (hH : Heap c M G hp w) : ∀ (xs : List AV) (vs : List Value), AV.gl.glL c xs → RdL G w xs vs → RdL (GF G) w (frz.frzL hp xs) vs
  | [], vs, _, hr => by simpa [RdL, frz.frzL] using hr
  | x :: xs, vs, hg, hr => by
    simp only [RdL, frz.frzL] at hr ⊢
    obtain ⟨v, r, rfl, h1, h2⟩ := hr
    simp only [AV.gl.glL] at hg
    exact ⟨v, r, rfl, frz_sound hH x v hg.1 h1, frzL_sound hH xs r hg.2 h2⟩
end
theorem aFld_sound {T : TypeId} {fs : Array Field} {f : Nat} {fd : Field} {sz : Option Nat} (hT : P.underlying T = some (.struct fs)) (hf : fs[f]? = some fd) (ht : szT P fd.type = some sz)
    {x : AV} {vx : Value} (h : (aFld fd.offset sz x).1) (hx : Rd G w x vx) (hg : x.gl c) :
    ∃ v, (Instr.field T vx f).run P w = .ok v w ∧ Rd G w (aFld fd.offset sz x).2 v ∧ (aFld fd.offset sz x).2.gl c := by
  unfold aFld at *
  split at h
  · simp only [Rd] at hx
    obtain ⟨cs, rfl, hx, ho⟩ := hx
    obtain ⟨v, h1, h2, h3⟩ := partA_sound (P := P) (t := fd.type) h hx ho (by simpa [AV.gl] using hg) ht
    exact ⟨v, by simp [Instr.field, underlying, hT, hf, asAgg, h1], h2, h3⟩
  · simp [stuckR] at h
theorem aIdxS_sound {T : TypeId} (hT : P.underlying T = some .string) {x i : AV} {vx vi : Value} (h : (aIdxS x i).1) (hx : Rd G w x vx) (hi : Rd G w i vi) :
    ∃ v, (Instr.index T vx vi).run P w = .ok v w ∧ Rd G w (aIdxS x i).2 v ∧ (aIdxS x i).2.gl c := by
  unfold aIdxS at *
  split at h
  · rename_i s k i
    have hx := hx.sc_inv
    have hi := hi.sc_inv
    subst hx; subst hi
    obtain ⟨h0, h1⟩ := h
    have hlt : i.toNat < s.data.toList.length := by omega
    have hb : s[i.toNat]? = some (s.data.toList.getD i.toNat 0) := by
      have e : s[i.toNat]? = s.data[i.toNat]? := rfl
      rw [e, ← Array.getElem?_toList, List.getElem?_eq_getElem hlt]
      simp [List.getD, List.getElem?_eq_getElem hlt]
    refine ⟨_, by simp [Instr.index, underlying, hT, asIntOf, h0, hb]; rfl, by simp [u8, Rd], gl_u8⟩
  · simp [stuckR] at h
theorem aIdxA_sound {T E : TypeId} {n : Nat} {es : Option Nat} (hT : P.underlying T = some (.array n E)) (hE : szT P E = some es) {x i : AV} {vx vi : Value} (h : (aIdxA n es x i).1) (hx : Rd G w x vx) (hi : Rd G w i vi) (hg : x.gl c) :
    ∃ v, (Instr.index T vx vi).run P w = .ok v w ∧ Rd G w (aIdxA n es x i).2 v ∧ (aIdxA n es x i).2.gl c := by
  unfold aIdxA at *
  split at h
  · rename_i xs k i
    have hi := hi.sc_inv
    subst hi
    obtain ⟨⟨h0, h1⟩, h2⟩ := h
    simp only [Rd] at hx
    obtain ⟨cs, rfl, hx, ho⟩ := hx
    obtain ⟨v, g1, g2, g3⟩ := partA_sound (P := P) (t := E) h2 hx ho (by simpa [AV.gl] using hg) hE
    refine ⟨v, ?_, g2, g3⟩
    simp [Instr.index, underlying, hT, asIntOf, h0, h1, sizeOf_run hE, g1]
  · simp [stuckR] at h
theorem aLoad_sound {M : Nat → Prop} {hp : Hp} (hH : Heap c M G hp w) {T : TypeId} {sz : Option Nat} (hT : szT P T = some sz) {x : AV} {vx : Value} (h : (aLoad sz x hp).1) (hx : Rd G w x vx) (hg : x.gl c) :
    ∃ v, (Instr.loadAt T vx).run P w = .ok v w ∧ Rd G w (aLoad sz x hp).2 v ∧ (aLoad sz x hp).2.gl c := by
  unfold aLoad at *
  cases x with
  | fp y o =>
    simp only at h ⊢
    cases hc : cellsA y with
    | none => rw [hc] at h; simp [stuckR] at h
    | some cs =>
      rw [hc] at h
      simp only at h ⊢
      simp only [Rd] at hx
      obtain ⟨u, b, o', g1, rfl, g2, g3⟩ := hx
      simp only [AV.gl] at hg
      obtain ⟨v, k1, k2, k3⟩ := isAgg_load hT h (g1.cells hc) (cells_ones g1 hc) (cells_gl hg hc) g3
      exact ⟨v, by simp [Instr.loadAt, Instr.sureAddr, k1], k2, k3⟩
  | op id g o =>
    simp only at h ⊢
    cases hid : hp id with
    | none => rw [hid] at h; simp [stuckR] at h
    | some q =>
      obtain ⟨g', obj⟩ := q
      cases obj with
      | row nl cells =>
        rw [hid] at h
        simp only at h ⊢
        obtain ⟨rfl, h⟩ := h
        obtain ⟨ob, hob, _, _, hrow⟩ := hH.rowC _ _ _ _ hid
        simp only [Rd] at hx
        obtain ⟨b, rfl, rfl, hsh⟩ := hx.2 _ hob
        obtain ⟨_, _, vs, cs, E', hb, hvs, hcs, ho⟩ := hrow b rfl hsh
        obtain ⟨v, k1, k2, k3⟩ := isAgg_load (b := b) (o := 0) hT h hvs ho (hH.gl _ _ _ _ hid).2 (fun j v hv => by
          simp only [World.cell?, hb]
          simpa using hcs j v hv)
        exact ⟨v, by simpa [Instr.loadAt, Instr.sureAddr] using k1, k2, k3⟩
  | _ => simp [stuckR] at h
theorem aLenS_sound {T ty : TypeId} (hT : P.underlying T = some .string) {x : AV} {vx : Value} (h : (aLenS x).1) (hx : Rd G w x vx) :
    ∃ v, (Builtin.len_ #[T] ty #[vx]).run P w = .ok v w ∧ Rd G w (aLenS x).2 v ∧ (aLenS x).2.gl c := by
  unfold aLenS at *
  split at h
  · have hx := hx.sc_inv
    subst hx
    refine ⟨_, by simp [Builtin.len_, underlying, hT]; rfl, ?_, gl_int⟩
    simp only [int, Rd, goInt, size_data]
  · simp [stuckR] at h
theorem aLen_sound {T ty e : TypeId} (hT : P.underlying T = some (.slice e)) {x : AV} {vx : Value} (h : (aLen x).1) (hx : Rd G w x vx) :
    ∃ v, (Builtin.len_ #[T] ty #[vx]).run P w = .ok v w ∧ Rd G w (aLen x).2 v ∧ (aLen x).2.gl c := by
  unfold aLen at *
  split at h
  · simp only [Rd] at hx
    obtain ⟨base, len, cap, vs, rfl, rfl, _, h3, _⟩ := hx
    refine ⟨_, by simp [Builtin.len_, underlying, hT]; rfl, ?_, gl_int⟩
    simp only [int, Rd, goInt, h3.length]
  · simp only [Rd] at hx
    rcases hx.1 with ⟨rfl, rfl, _⟩ | ⟨b, cap, o, rfl, _⟩
    · exact ⟨_, by simp [Builtin.len_, underlying, hT]; rfl, by simp [int, Rd, goInt], gl_int⟩
    · exact ⟨_, by simp [Builtin.len_, underlying, hT]; rfl, by simp [int, Rd, goInt], gl_int⟩
  · have hx := hx.sc_inv
    subst hx
    exact ⟨_, by simp [Builtin.len_, underlying, hT]; rfl, by simp [int, Rd, goInt], gl_int⟩
  · simp [stuckR] at h
theorem aSl_sound {T E : TypeId} {es : Option Nat} (hT : P.underlying T = some (.slice E)) (hE : szT P E = some es) {x : AV} {lo hi : Option AV} {vx : Value} {vlo vhi : Option Value}
    (h : (aSl es x lo hi).1) (hx : Rd G w x vx) (hg : x.gl c)
    (hlo : ∀ a, lo = some a → ∃ v, vlo = some v ∧ Rd G w a v) (hlo' : lo = none → vlo = none) (hhi : ∀ a, hi = some a → ∃ v, vhi = some v ∧ Rd G w a v) (hhi' : hi = none → vhi = none) :
    ∃ v, (Instr.sliceAt T vx vlo vhi none).run P w = .ok v w ∧ Rd G w (aSl es x lo hi).2 v ∧ (aSl es x lo hi).2.gl c := by
  have hs := sizeOf_run hE w
  unfold aSl at *
  split at h
  · rename_i nl es' xs
    obtain ⟨rfl, p1, p2, p3, p4, p5⟩ := h
    have b1 := aBound_sound p1 hlo hlo'
    have b2 := aBound_sound p2 hhi hhi'
    simp only [Rd] at hx
    obtain ⟨base, len, cap, vs, rfl, rfl, g2, g3, g4, g5, g6⟩ := hx
    rw [← g3.length] at p5 b2 p4 p2
    have hb := run_bounds (P := P) (w := w) (isS := true) (len := vs.length) (cap := cap) b1 b2 p3 p4 p5 g2
    dsimp only
    rw [← g3.length]
    generalize (aBound 0 lo).2 = l at *
    generalize (aBound (↑vs.length) hi).2 = r at *
    refine ⟨.slice (if cap = l.toNat then base else base.map (·.add (l.toNat * esz es))) (r.toNat - l.toNat) (cap - l.toNat), ?_, ?_, ?_⟩
    · simp only [Instr.sliceAt, Instr.slice]; simp [underlying, hT, hb, hs]
    · simp only [Rd]
      refine ⟨_, _, _, (vs.take r.toNat).drop l.toNat, rfl, by simp; omega, by omega, (g3.take _).drop _, ?_, ?_, ?_⟩
      · rw [g4]; split <;> simp
      · intro hn
        have : base = none := by
          split at hn
          · exact hn
          · simpa using hn
        have := g5 this
        omega
      · intro a ha hne
        cases base with
        | none => split at ha <;> simp at ha
        | some a0 =>
          obtain ⟨k1, k2, k3⟩ := g6 a0 rfl (fun e => hne (by rw [e]; simp))
          by_cases hc : cap = l.toNat
          · rw [if_pos hc] at ha
            simp at ha; subst ha
            refine ⟨k1, k2, fun i v hv => ?_⟩
            have : (List.drop l.toNat (List.take r.toNat vs)).length = 0 := by simp; omega
            rw [List.eq_nil_of_length_eq_zero this] at hv
            simp at hv
          · rw [if_neg hc] at ha
            simp at ha
            have hadd : a.block = a0.block ∧ a.off = a0.off + l.toNat * esz es ∧ a.spot = none := by
              rw [← ha, ← spot_mk k1, add_mk]; simp
            obtain ⟨e1, e2, e3⟩ := hadd
            refine ⟨e3, by rw [e1]; exact k2, fun i v hv => ?_⟩
            have hv' : vs[l.toNat + i]? = some v := by
              rw [List.getElem?_drop, List.getElem?_take] at hv
              split at hv
              · exact hv
              · simp at hv
            have := k3 _ v hv'
            refine ⟨this.1, ?_⟩
            rw [e1, e2, Nat.add_assoc, ← Nat.add_mul]
            exact this.2
    · simp only [AV.gl] at hg ⊢
      exact glL_drop (glL_take hg)
  · rename_i id g es' o n
    obtain ⟨rfl, p1, p2, p3, p4, p5⟩ := h
    have b1 := aBound_sound p1 hlo hlo'
    have b2 := aBound_sound p2 hhi hhi'
    simp only [Rd] at hx
    obtain ⟨hx1, hx2⟩ := hx
    dsimp only
    generalize (aBound 0 lo).2 = l at *
    generalize (aBound (↑n) hi).2 = r at *
    rcases hx1 with ⟨rfl, rfl, rfl⟩ | ⟨b, cap, o', rfl, q1, q2⟩
    · have hb := run_bounds (P := P) (w := w) (isS := true) (len := 0) (cap := 0) b1 b2 p3 p4 p5 (Nat.le_refl _)
      have e1 : l.toNat = 0 := by omega
      have e2 : r.toNat = 0 := by omega
      refine ⟨.slice none 0 0, ?_, ?_, by simpa [AV.gl] using hg⟩
      · simp only [Instr.sliceAt, Instr.slice]; simp [underlying, hT, hb, hs, e1, e2]
      · simp only [Rd]
        refine ⟨.inl ⟨by trivial, by omega, by simp [e1]⟩, fun ob' hob' => ?_⟩
        have h := hx2 _ hob'
        cases ob' with
        | none => simp [e1, e2]
        | some b => obtain ⟨_, _, _, _, h, _⟩ := h; simp at h
    · have hb := run_bounds (P := P) (w := w) (isS := true) (len := n) (cap := cap) b1 b2 p3 p4 p5 q1
      refine ⟨.slice (some (if cap = l.toNat then ⟨b, o', none⟩ else ⟨b, o' + l.toNat * esz es, none⟩)) (r.toNat - l.toNat) (cap - l.toNat), ?_, ?_, by simpa [AV.gl] using hg⟩
      · simp only [Instr.sliceAt, Instr.slice]
        by_cases hc : cap = l.toNat
        · subst hc
          simp [underlying, hT, hb, hs]
        · simp [underlying, hT, hb, hs, hc, add_mk]
      · simp only [Rd]
        refine ⟨.inr ?_, fun ob' hob' => ?_⟩
        · by_cases hc : cap = l.toNat
          · exact ⟨b, cap - l.toNat, o', by rw [if_pos hc], by omega, .inr (by omega)⟩
          · refine ⟨b, cap - l.toNat, o' + l.toNat * esz es, by rw [if_neg hc], by omega, ?_⟩
            rcases q2 with q2 | q2
            · left; rw [q2]
            · omega
        have h := hx2 _ hob'
        cases ob' with
        | none => obtain ⟨h, _⟩ := h; simp at h
        | some b2 =>
        obtain ⟨cap2, o2, E', k', h, _, _, q3, q4⟩ := h
        simp only [Value.slice.injEq, Option.some.injEq, Addr.mk.injEq] at h
        obtain ⟨⟨rfl, rfl, -⟩, -, rfl⟩ := h
        by_cases hc : cap = l.toNat
        · refine ⟨cap - l.toNat, o', E', k', by rw [if_pos hc], by omega, .inr (by omega), q3, ?_⟩
          rw [Nat.add_assoc, ← Nat.add_mul]
          have : l.toNat + (cap - l.toNat) = cap := by omega
          rw [this]; exact q4
        · refine ⟨cap - l.toNat, o' + l.toNat * esz es, E', k', by rw [if_neg hc], by omega, ?_, q3, ?_⟩
          · rcases q2 with q2 | q2
            · left; rw [q2]
            · omega
          · rw [Nat.add_assoc, ← Nat.add_mul]
            have : l.toNat + (cap - l.toNat) = cap := by omega
            rw [this]; exact q4
  · obtain ⟨p1, p2, p3, p4, p5⟩ := h
    have b1 := aBound_sound p1 hlo hlo'
    have b2 := aBound_sound p2 hhi hhi'
    have hx := hx.sc_inv
    subst hx
    dsimp only
    generalize (aBound 0 lo).2 = l at *
    generalize (aBound 0 hi).2 = r at *
    have hb := run_bounds (P := P) (w := w) (isS := true) (len := 0) (cap := 0) b1 b2 p3 p4 p5 (Nat.le_refl _)
    have e1 : l.toNat = 0 := by omega
    have e2 : r.toNat = 0 := by omega
    refine ⟨.slice none 0 0, ?_, by simp [Rd], by simp [AV.gl]⟩
    simp only [Instr.sliceAt, Instr.slice]; simp [underlying, hT, hb, hs, e1, e2]
  · simp [stuckR] at h
theorem aSl3_sound {T E : TypeId} {es : Option Nat} (hT : P.underlying T = some (.slice E)) (hE : szT P E = some es) {x hi mx : AV} {lo : Option AV} {vx vhi vmx : Value} {vlo : Option Value}
    (h : (aSl3 es x lo hi mx).1) (hx : Rd G w x vx) (hg : x.gl c)
    (hlo : ∀ a, lo = some a → ∃ v, vlo = some v ∧ Rd G w a v) (hlo' : lo = none → vlo = none) (hhi : Rd G w hi vhi) (hmx : Rd G w mx vmx) :
    ∃ v, (Instr.sliceAt T vx vlo (some vhi) (some vmx)).run P w = .ok v w ∧ Rd G w (aSl3 es x lo hi mx).2 v ∧ (aSl3 es x lo hi mx).2.gl c := by
  have hs := sizeOf_run hE w
  unfold aSl3 at *
  split at h
  · rename_i nl es' xs
    obtain ⟨rfl, p1, p2, p6, p3, p4, p7, p5⟩ := h
    have b1 := aBound_sound p1 hlo hlo'
    obtain ⟨k1, rfl⟩ := aBound_some p2 hhi
    obtain ⟨k2, rfl⟩ := aBound_some p6 hmx
    simp only [Rd] at hx
    obtain ⟨base, len, cap, vs, rfl, rfl, g2, g3, g4, g5, g6⟩ := hx
    rw [← g3.length] at p5
    dsimp only
    generalize (aBound 0 lo).2 = l at *
    generalize (aBound 0 (some hi)).2 = r at *
    generalize (aBound 0 (some mx)).2 = m at *
    have hb := run_bounds3 (P := P) (w := w) (isS := true) (len := vs.length) (cap := cap) (k := k1) (k' := k2) b1 p3 p4 p7 (by omega)
    refine ⟨.slice (if m.toNat = l.toNat then base else base.map (·.add (l.toNat * esz es))) (r.toNat - l.toNat) (m.toNat - l.toNat), ?_, ?_, ?_⟩
    · simp only [Instr.sliceAt, Instr.slice]; simp [underlying, hT, hb, hs]
    · simp only [Rd]
      refine ⟨_, _, _, (vs.take r.toNat).drop l.toNat, rfl, by simp; omega, by omega, (g3.take _).drop _, ?_, ?_, ?_⟩
      · rw [g4]; split <;> simp
      · intro hn
        have : base = none := by
          split at hn
          · exact hn
          · simpa using hn
        have := g5 this
        omega
      · intro a ha hne
        cases base with
        | none => split at ha <;> simp at ha
        | some a0 =>
          obtain ⟨k1, k2, k3⟩ := g6 a0 rfl (fun e => hne (by rw [e]; simp))
          by_cases hc : m.toNat = l.toNat
          · rw [if_pos hc] at ha
            simp at ha; subst ha
            refine ⟨k1, k2, fun i v hv => ?_⟩
            have : (List.drop l.toNat (List.take r.toNat vs)).length = 0 := by simp; omega
            rw [List.eq_nil_of_length_eq_zero this] at hv
            simp at hv
          · rw [if_neg hc] at ha
            simp at ha
            have hadd : a.block = a0.block ∧ a.off = a0.off + l.toNat * esz es ∧ a.spot = none := by
              rw [← ha, ← spot_mk k1, add_mk]; simp
            obtain ⟨e1, e2, e3⟩ := hadd
            refine ⟨e3, by rw [e1]; exact k2, fun i v hv => ?_⟩
            have hv' : vs[l.toNat + i]? = some v := by
              rw [List.getElem?_drop, List.getElem?_take] at hv
              split at hv
              · exact hv
              · simp at hv
            have := k3 _ v hv'
            refine ⟨this.1, ?_⟩
            rw [e1, e2, Nat.add_assoc, ← Nat.add_mul]
            exact this.2
    · simp only [AV.gl] at hg ⊢
      exact glL_drop (glL_take hg)
  · rename_i id g es' o n
    obtain ⟨rfl, p1, p2, p6, p3, p4, p7, p5⟩ := h
    have b1 := aBound_sound p1 hlo hlo'
    obtain ⟨k1, rfl⟩ := aBound_some p2 hhi
    obtain ⟨k2, rfl⟩ := aBound_some p6 hmx
    simp only [Rd] at hx
    obtain ⟨hx1, hx2⟩ := hx
    dsimp only
    generalize (aBound 0 lo).2 = l at *
    generalize (aBound 0 (some hi)).2 = r at *
    generalize (aBound 0 (some mx)).2 = m at *
    rcases hx1 with ⟨rfl, rfl, rfl⟩ | ⟨b, cap, o', rfl, q1, q2⟩
    · have hb := run_bounds3 (P := P) (w := w) (isS := true) (len := 0) (cap := 0) (k := k1) (k' := k2) b1 p3 p4 p7 (by omega)
      have e1 : l.toNat = 0 := by omega
      have e2 : r.toNat = 0 := by omega
      have e3 : m.toNat = 0 := by omega
      refine ⟨.slice none 0 0, ?_, ?_, by simpa [AV.gl] using hg⟩
      · simp only [Instr.sliceAt, Instr.slice]; simp [underlying, hT, hb, hs, e1, e2, e3]
      · simp only [Rd]
        refine ⟨.inl ⟨by trivial, by omega, by simp [e1]⟩, fun ob' hob' => ?_⟩
        have h := hx2 _ hob'
        cases ob' with
        | none => simp [e1, e2]
        | some b => obtain ⟨_, _, _, _, h, _⟩ := h; simp at h
    · have hb := run_bounds3 (P := P) (w := w) (isS := true) (len := n) (cap := cap) (k := k1) (k' := k2) b1 p3 p4 p7 (by omega)
      refine ⟨.slice (some (if m.toNat = l.toNat then ⟨b, o', none⟩ else ⟨b, o' + l.toNat * esz es, none⟩)) (r.toNat - l.toNat) (m.toNat - l.toNat), ?_, ?_, by simpa [AV.gl] using hg⟩
      · simp only [Instr.sliceAt, Instr.slice]
        by_cases hc : m.toNat = l.toNat
        · simp [underlying, hT, hb, hs, hc]
        · simp [underlying, hT, hb, hs, hc, add_mk]
      · simp only [Rd]
        refine ⟨.inr ?_, fun ob' hob' => ?_⟩
        · by_cases hc : m.toNat = l.toNat
          · exact ⟨b, m.toNat - l.toNat, o', by rw [if_pos hc], by omega, .inr (by omega)⟩
          · refine ⟨b, m.toNat - l.toNat, o' + l.toNat * esz es, by rw [if_neg hc], by omega, ?_⟩
            rcases q2 with q2 | q2
            · left; rw [q2]
            · omega
        have h := hx2 _ hob'
        cases ob' with
        | none => obtain ⟨h, _⟩ := h; simp at h
        | some b2 =>
        obtain ⟨cap2, o2, E', k', h, _, _, q3, q4⟩ := h
        simp only [Value.slice.injEq, Option.some.injEq, Addr.mk.injEq] at h
        obtain ⟨⟨rfl, rfl, -⟩, -, rfl⟩ := h
        have hle : l.toNat * esz es + (m.toNat - l.toNat) * esz es ≤ cap * esz es := by
          rw [← Nat.add_mul]; exact Nat.mul_le_mul_right _ (by omega)
        by_cases hc : m.toNat = l.toNat
        · exact ⟨m.toNat - l.toNat, o', E', k', by rw [if_pos hc], by omega, .inr (by omega), q3, by omega⟩
        · refine ⟨m.toNat - l.toNat, o' + l.toNat * esz es, E', k', by rw [if_neg hc], by omega, ?_, q3, by omega⟩
          rcases q2 with q2 | q2
          · left; rw [q2]
          · omega
  · obtain ⟨p1, p2, p6, p3, p4, p7, p5⟩ := h
    have b1 := aBound_sound p1 hlo hlo'
    obtain ⟨k1, rfl⟩ := aBound_some p2 hhi
    obtain ⟨k2, rfl⟩ := aBound_some p6 hmx
    have hx := hx.sc_inv
    subst hx
    dsimp only
    generalize (aBound 0 lo).2 = l at *
    generalize (aBound 0 (some hi)).2 = r at *
    generalize (aBound 0 (some mx)).2 = m at *
    have hb := run_bounds3 (P := P) (w := w) (isS := true) (len := 0) (cap := 0) (k := k1) (k' := k2) b1 p3 p4 p7 (by omega)
    have e1 : l.toNat = 0 := by omega
    have e2 : r.toNat = 0 := by omega
    have e3 : m.toNat = 0 := by omega
    refine ⟨.slice none 0 0, ?_, by simp [Rd], by simp [AV.gl]⟩
    simp only [Instr.sliceAt, Instr.slice]; simp [underlying, hT, hb, hs, e1, e2, e3]
  · simp [stuckR] at h
theorem aSla_sound {M : Nat → Prop} {hp : Hp} (hH : Heap c M G hp w) {T E : TypeId} {n : Nat} {es : Option Nat} (hT : P.underlying T = some (.array n E)) (hE : szT P E = some es) {x : AV} {lo hi : Option AV} {vx : Value} {vlo vhi : Option Value}
    (h : (aSla n es x lo hi hp).1) (hx : Rd G w x vx) (hg : x.gl c)
    (hlo : ∀ a, lo = some a → ∃ v, vlo = some v ∧ Rd G w a v) (hlo' : lo = none → vlo = none) (hhi : ∀ a, hi = some a → ∃ v, vhi = some v ∧ Rd G w a v) (hhi' : hi = none → vhi = none) :
    ∃ v, (Instr.sliceAt T vx vlo vhi none).run P w = .ok v w ∧ Rd G w (aSla n es x lo hi hp).2 v ∧ (aSla n es x lo hi hp).2.gl c := by
  have hs := sizeOf_run hE w
  unfold aSla at *
  split at h
  · rename_i id g o
    obtain ⟨⟨nl, cells, hid, hfit⟩, p1, p2, p3, p4, p5⟩ := h
    have b1 := aBound_sound p1 hlo hlo'
    have b2 := aBound_sound p2 hhi hhi'
    obtain ⟨ob, hob, _, _, hrow⟩ := hH.rowC _ _ _ _ hid
    simp only [Rd] at hx
    obtain ⟨b, rfl, rfl, hsh⟩ := hx.2 _ hob
    obtain ⟨_, _, vs, cs, E', hb', hvs, hcs, _⟩ := hrow b rfl hsh
    have hb := run_bounds (P := P) (w := w) (isS := false) (len := n) (cap := n) b1 b2 p3 p4 p5 (Nat.le_refl _)
    dsimp only
    generalize (aBound 0 lo).2 = l at *
    generalize (aBound (↑n) hi).2 = r at *
    have hsz : vs.length ≤ cs.size := by
      rcases Nat.lt_or_ge cs.size vs.length with h' | h'
      · exfalso
        have h2 := hcs (vs.length - 1) vs[vs.length - 1] (List.getElem?_eq_getElem (by omega))
        rw [Array.getElem?_eq_none (by omega)] at h2
        simp at h2
      · exact h'
    refine ⟨.slice (some (if n = l.toNat then ⟨b, o, none⟩ else ⟨b, o + l.toNat * esz es, none⟩)) (r.toNat - l.toNat) (n - l.toNat), ?_, ?_, by simpa [AV.gl] using hg⟩
    · simp only [Instr.sliceAt, Instr.sureAddr]
      by_cases hc : n = l.toNat
      · simp only [if_pos hc]
        simp [underlying, hT, hb, hs]
        intro h
        exact absurd hc h
      · simp [underlying, hT, hb, hs, hc, add_mk]
    · simp only [Rd]
      refine ⟨.inr ?_, fun ob' hob' => ?_⟩
      · by_cases hc : n = l.toNat
        · exact ⟨b, n - l.toNat, o, by rw [if_pos hc], by omega, .inr (by omega)⟩
        · exact ⟨b, n - l.toNat, o + l.toNat * esz es, by rw [if_neg hc], by omega, .inl rfl⟩
      rw [hob] at hob'; cases hob'
      have hshape : w.shape? b = some (E', cs.size) := by simp [World.shape?, hb']
      have hl := hvs.length
      by_cases hc : n = l.toNat
      · refine ⟨n - l.toNat, o, E', cs.size, by rw [if_pos hc], by omega, .inr (by omega), hshape, ?_⟩
        rw [Nat.add_assoc, ← Nat.add_mul]
        have : l.toNat + (n - l.toNat) = n := by omega
        rw [this]; omega
      · refine ⟨n - l.toNat, o + l.toNat * esz es, E', cs.size, by rw [if_neg hc], by omega, .inl rfl, hshape, ?_⟩
        rw [Nat.add_assoc, ← Nat.add_mul]
        have : l.toNat + (n - l.toNat) = n := by omega
        rw [this]; omega
  · rename_i xs
    obtain ⟨rfl, rfl, p1, p2, p3, p4, p5⟩ := h
    have b1 := aBound_sound p1 hlo hlo'
    have b2 := aBound_sound p2 hhi hhi'
    simp only [Rd] at hx
    obtain ⟨v, b, o, ⟨cs, rfl, g3, g1⟩, rfl, kS, kH⟩ := hx
    have hb := run_bounds (P := P) (w := w) (isS := false) (len := xs.length) (cap := xs.length) b1 b2 p3 p4 p5 (Nat.le_refl _)
    dsimp only
    generalize (aBound 0 lo).2 = l at *
    generalize (aBound (↑xs.length) hi).2 = r at *
    have hcl := g3.length
    refine ⟨.slice (some (if xs.length = l.toNat then ⟨b, o, none⟩ else ⟨b, o + l.toNat * esz none, none⟩)) (r.toNat - l.toNat) (xs.length - l.toNat), ?_, ?_, ?_⟩
    · simp only [Instr.sliceAt, Instr.sureAddr, Nat.add_zero]
      by_cases hc : xs.length = l.toNat
      · simp only [if_pos hc]
        simp [underlying, hT, hb, hs]
        intro h
        exact absurd hc h
      · simp [underlying, hT, hb, hs, hc, add_mk]
    · simp only [Rd]
      refine ⟨_, _, _, (cs.take r.toNat).drop l.toNat, rfl, by simp; omega, by omega, (g3.take _).drop _, by simp, by simp, ?_⟩
      intro a ha hne
      simp only [Option.some.injEq] at ha
      have hnl : ¬ xs.length = l.toNat := fun e => hne (List.eq_nil_of_length_eq_zero (by simp; omega))
      rw [if_neg hnl] at ha
      subst ha
      refine ⟨rfl, kS, fun i v hv => ?_⟩
      rw [List.getElem?_drop, List.getElem?_take] at hv
      split at hv
      · have h1 := g1 v (List.mem_of_getElem? hv)
        have hvc : v.cells = #[v] := by cases v <;> first | rfl | simp [Value.oneCell'] at h1
        refine ⟨h1, fun j u hu => ?_⟩
        rw [hvc] at hu
        cases j with
        | zero =>
          simp at hu
          subst hu
          have := kH (l.toNat + i) v (by simpa [Value.cells] using hv)
          simpa [esz, Nat.add_assoc] using this
        | succ j => simp at hu
      · simp at hv
    · simp only [AV.gl] at hg ⊢
      exact glL_drop (glL_take hg)
  · simp [stuckR] at h
theorem run_equal_bool {T : TypeId} (hT : P.underlying T = some .bool) (a b : Bool) : (Op.equal T (.bool a) (.bool b)).run P w = .ok (a == b) w := by
  show (Op.equalIn (9999 + 1) T (.bool a) (.bool b)).run P w = _
  unfold Op.equalIn
  simp [underlying, hT]
theorem run_equal_nil {T e : TypeId} (hT : P.underlying T = some (.slice e)) (a : Option Addr) (l k : Nat) : (Op.equal T (.slice a l k) (.slice none 0 0)).run P w = .ok a.isNone w := by
  show (Op.equalIn (9999 + 1) T (.slice a l k) (.slice none 0 0)).run P w = _
  unfold Op.equalIn
  cases a <;> simp [underlying, hT]
theorem aBeq_sound {T : TypeId} (hT : P.underlying T = some .bool) {neg : Bool} {x y : AV} {vx vy : Value} (h : (aBeq neg x y).1) (hx : Rd G w x vx) (hy : Rd G w y vy) :
    ∃ v, (binOp (if neg then .neq else .eql) T vx vy).run P w = .ok v w ∧ Rd G w (aBeq neg x y).2 v ∧ (aBeq neg x y).2.gl c := by
  unfold aBeq at *
  split at h
  · rename_i a b
    have hx := hx.sc_inv
    have hy := hy.sc_inv
    subst hx; subst hy
    have := run_equal_bool (w := w) hT a b
    cases neg <;> refine ⟨_, by simp only [binOp]; simp [this]; rfl, by simp [boo, Rd], gl_boo⟩
  · simp [stuckR] at h
theorem aIsnil_sound {T e : TypeId} (hT : P.underlying T = some (.slice e)) {neg : Bool} {x : AV} {vx : Value} (h : (aIsnil neg x).1) (hx : Rd G w x vx) :
    ∃ v, (binOp (if neg then .neq else .eql) T vx (.slice none 0 0)).run P w = .ok v w ∧ Rd G w (aIsnil neg x).2 v ∧ (aIsnil neg x).2.gl c := by
  unfold aIsnil at *
  split at h
  · rename_i nl es xs
    simp only [Rd] at hx
    obtain ⟨base, len, cap, vs, rfl, rfl, g2, g3, g4, g5, g6⟩ := hx
    have : nl = base.isNone := by
      cases base <;> cases nl <;> simp_all
    subst this
    have := run_equal_nil (w := w) hT base vs.length cap
    cases neg <;> refine ⟨_, by simp only [binOp]; simp [this]; rfl, by simp [boo, Rd], gl_boo⟩
  · have hx := hx.sc_inv
    subst hx
    rename_i b l k
    have := run_equal_nil (w := w) hT b l k
    cases neg <;> refine ⟨_, by simp only [binOp]; simp [this]; rfl, by simp [boo, Rd], gl_boo⟩
  · simp [stuckR] at h
theorem run_equal_pnil {T e : TypeId} (hT : P.underlying T = some (.pointer e)) (a : Option Addr) : (Op.equal T (.pointer a) (.pointer none)).run P w = .ok a.isNone w := by
  show (Op.equalIn (9999 + 1) T (.pointer a) (.pointer none)).run P w = _
  unfold Op.equalIn
  cases a <;> simp [underlying, hT]
theorem aIsnilp_sound {T e : TypeId} (hT : P.underlying T = some (.pointer e)) {neg : Bool} {x : AV} {vx : Value} (h : (aIsnilp neg x).1) (hx : Rd G w x vx) :
    ∃ v, (binOp (if neg then .neq else .eql) T vx (.pointer none)).run P w = .ok v w ∧ Rd G w (aIsnilp neg x).2 v ∧ (aIsnilp neg x).2.gl c := by
  unfold aIsnilp at *
  split at h
  · simp only [Rd] at hx
    obtain ⟨u, b, o', _, rfl, _⟩ := hx
    have := run_equal_pnil (w := w) hT
    cases neg <;> refine ⟨_, by simp only [binOp]; simp [this]; rfl, by simp [boo, Rd], gl_boo⟩
  · obtain ⟨b, rfl⟩ := op_ptr hx
    have := run_equal_pnil (w := w) hT
    cases neg <;> refine ⟨_, by simp only [binOp]; simp [this]; rfl, by simp [boo, Rd], gl_boo⟩
  · have hx := hx.sc_inv
    subst hx
    rename_i a
    have := run_equal_pnil (w := w) hT
    cases neg <;> refine ⟨_, by simp only [binOp]; simp [this]; rfl, by simp [boo, Rd], gl_boo⟩
  · simp [stuckR] at h
end
end Go.Proofs.YtbmmdkbinlnogaaDoor.Aw
