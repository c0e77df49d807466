/- Parts of the proofs of Eo. -/
import Derived.Test.YtbmmdkbinlnogaaDoorQEoAF
namespace Go.Proofs.YtbmmdkbinlnogaaDoor.Aw
open Go
set_option linter.unusedSimpArgs false
set_option linter.unusedVariables false
section
variable {P : Program} {G : Gh} {w : World} {c : Nat} {M : Nat → Prop} {hp : Hp}
theorem res_frozen (hH : Heap c M G hp w) {w' : World} (hk : Keep w.heap.size (fun _ => False) w w') (hlt : w.heap.size < w'.heap.size) {r : AV} {x : Value} (hg : r.gl c)
    (h : ∀ G', (∀ b, G.S b → G'.S b) → G'.S w.heap.size → Ext c G w G' w' → Rd G' w' r x) : Res c M G w r hp c x w' := by
  obtain ⟨hE, hH'⟩ := heap_grow hH hk (fun b => b = w.heap.size) (fun b hb => ⟨by omega, by omega⟩)
  exact ⟨_, hE, hH', h _ (fun b hb => .inl hb) (.inr rfl) hE, hg, Nat.le_refl _, hk.mono (Nat.le_refl _) (fun _ _ h => h.elim), fun b hb => hb.elim .inl (fun e => .inr (.inl (by omega)))⟩
theorem aS2b_sound {S D e : TypeId} (hS : P.underlying S = some .string) (hD : P.underlying D = some (.slice e)) (he : P.underlying e = some (.int .u8)) (hH : Heap c M G hp w) {x : AV} {vx : Value}
    (h : (aS2b x).1) (hx : Rd G w x vx) : ∃ v w', (convert S D vx).run P w = .ok v w' ∧ Res c M G w (aS2b x).2 hp c v w' := by
  unfold aS2b at *
  split at h
  · rename_i s
    have hx := hx.sc_inv
    subst hx
    let cap := (Question.appendCap s.size 0 e).cut (w.tape w.drawn (.appendCap s.size 0 e))
    have hcap : s.size ≤ cap := by simp only [cap, Question.cut]; omega
    let cs : Array Value := s.data.map (fun b => Value.int .u8 b.toNat) ++ Array.replicate (cap - s.size) (.int .u8 0)
    let w1 : World := w.drew.alloc (.cells cs e)
    have hsz : w1.heap.size = w.heap.size + 1 := alloc_size _ _
    have hget : w1.heap[w.heap.size]? = some (.cells cs e (0, 0)) := alloc_get w.drew _
    have hsh : w1.shape? w.heap.size = some (e, cs.size) := by simp only [World.shape?, hget]
    let w2 : World := w1.freeze ⟨w.heap.size, cs.size, none⟩ 1
    have hget2 : w2.heap[w.heap.size]? = some (.cells cs e (cs.size, cs.size + 1)) := by
      simp only [w2, World.freeze, if_neg (by decide : ¬ (1 = 0)), Array.getElem?_modify, if_pos, hget]
      simp
    have hk : Keep w.heap.size (fun _ => False) w w2 := by
      have h1 := alloc_keep w.drew (.cells cs e)
      refine ⟨rfl, rfl, rfl, ?_, fun k hk _ => ?_⟩
      · simp only [w2, World.freeze, if_neg (by decide : ¬ (1 = 0)), Array.size_modify]
        omega
      · simp only [w2, World.freeze, if_neg (by decide : ¬ (1 = 0)), Array.getElem?_modify]
        rw [if_neg (by omega)]
        exact h1.block k hk (fun h => h)
    refine ⟨.slice (some ⟨w.heap.size, 0, none⟩) s.size cap, w2, ?_, ?_⟩
    · have hf : (Question.appendCap s.size 0 e).forced = false := rfl
      have hrun : (convert S D (.string s)).run P w = .ok (.slice (some ⟨w.heap.size, 0, none⟩) s.size cap) ((w1).freeze ⟨w.heap.size, cs.size, none⟩ 1) := by
        simp only [convert]
        simp [underlying, hS, hD, he, Conv.stringToBytes, hf, newRow, markStringish]
        have e1 : w.drew.alloc (Obj.cells (Array.map (fun b => Value.int IntKind.u8 ↑b.toNat) s.data ++ Array.replicate ((Question.appendCap s.size 0 e).cut (w.tape w.drawn (Question.appendCap s.size 0 e)) - s.size) (Value.int IntKind.u8 0)) e) = w1 := rfl
        rw [e1, hsh]
        rfl
      exact hrun
    · refine res_frozen hH hk (by simp only [w2, World.freeze, if_neg (by decide : ¬ (1 = 0)), Array.size_modify]; omega) ?_ ?_
      · simp only [AV.gl]
        exact glL_iff.2 fun y hy => by
          obtain ⟨b, _, rfl⟩ := List.mem_map.1 hy
          exact gl_u8
      · intro G' _ hS' _
        simp only [Rd]
        refine ⟨some ⟨w.heap.size, 0, none⟩, s.size, cap, s.data.toList.map fun b => Value.int .u8 b.toNat, rfl, by rw [List.length_map, Array.length_toList]; rfl, hcap, ?_, by simp, by simp, ?_⟩
        · refine RdL.of_get (by simp) fun i y v hy hv => ?_
          simp only [List.getElem?_map] at hy hv
          cases hi : s.data.toList[i]? with
          | none => rw [hi] at hy; simp at hy
          | some b =>
            rw [hi] at hy hv
            simp at hy hv
            subst hy; subst hv
            simp [u8, Rd]
        · intro a ha _
          simp at ha; subst ha
          refine ⟨rfl, hS', fun i v hv => ?_⟩
          simp only [List.getElem?_map] at hv
          cases hi : s.data.toList[i]? with
          | none => rw [hi] at hv; simp at hv
          | some b =>
            rw [hi] at hv
            simp at hv
            subst hv
            refine ⟨rfl, fun j u hu => ?_⟩
            simp [Value.cells] at hu
            cases j with
            | succ j => simp at hu
            | zero =>
              simp at hu; subst hu
              have hlt : i < s.data.size := by
                rcases Nat.lt_or_ge i s.data.size with h' | h'
                · exact h'
                · rw [List.getElem?_eq_none (by simpa using h')] at hi; simp at hi
              simp only [World.cell?, hget2]
              have : cs[i]? = some (.int .u8 b.toNat) := by
                simp only [cs]
                rw [Array.getElem?_append_left (by simpa using hlt)]
                have : s.data[i]? = some b := by simpa using hi
                simp [this]
              simpa [esz] using this
  · simp [stuckR] at h
theorem bslice_places (n : Nat) (es : Option Nat) : ∀ (l : List Operand) (k : Nat), placesOk (fun i => some (i * n, n)) ((List.range' k l.length).zip l) (((List.range' k l.length).zip l).map fun p => (p.1 * n, n, p.2))
  | [], _ => by simp [placesOk]
  | x :: l, k => by
    simp only [List.length_cons, List.range'_succ, List.zip_cons_cons, List.map_cons, placesOk]
    exact ⟨_, _, _, rfl, rfl, bslice_places n es l (k + 1)⟩
theorem aBuild_flat {e : Operand → AV} {n : Nat} : ∀ (l : List Operand) (k : Nat) (pre post : List AV), pre.length = k * n → (∀ x ∈ l, ∃ ys, cellsA (e x) = some ys ∧ ys.length = n) → post.length = l.length * n →
    aBuild (pre ++ post) ((((List.range' k l.length).zip l).map fun p => (p.1 * n, n, p.2)).map fun p => (p.1, p.2.1, e p.2.2)) = ((aBuild (pre ++ post) ((((List.range' k l.length).zip l).map fun p => (p.1 * n, n, p.2)).map fun p => (p.1, p.2.1, e p.2.2))).1, .agg (pre ++ l.flatMap fun x => (cellsA (e x)).getD [])) ∧
    (aBuild (pre ++ post) ((((List.range' k l.length).zip l).map fun p => (p.1 * n, n, p.2)).map fun p => (p.1, p.2.1, e p.2.2))).1
  | [], k, pre, post, _, _, hpost => by
    have : post = [] := List.eq_nil_of_length_eq_zero (by simpa using hpost)
    subst this
    simp [aBuild]
  | x :: l, k, pre, post, hpre, hx, hpost => by
    obtain ⟨ys, hys, hn⟩ := hx x (by simp)
    simp only [List.length_cons, Nat.add_mul, Nat.one_mul] at hpost
    have hsp : splice (k * n) ys (pre ++ post) = (pre ++ ys) ++ post.drop n := by
      unfold splice
      rw [← hpre, List.take_left, hn, List.drop_length_add_append]
    have ih := aBuild_flat (e := e) (n := n) l (k + 1) (pre ++ ys) (post.drop n) (by simp [hpre, hn, Nat.add_mul]) (fun y hy => hx y (by simp [hy])) (by simp; omega)
    simp only [List.length_cons, List.range'_succ, List.zip_cons_cons, List.map_cons, aBuild, hys, hsp]
    obtain ⟨h1, h2⟩ := ih
    constructor
    · rw [h1]
      simp [hys]
    · refine ⟨⟨hn, ?_⟩, h2⟩
      simp [hpre, hn]; omega
theorem shA_cells {es : Option Nat} {x : AV} (h : shA es x) : ∃ ys, cellsA x = some ys ∧ ys.length = esz es := by
  cases es with
  | none => exact ⟨[x], h, rfl⟩
  | some n => obtain ⟨xs, rfl, h⟩ := h; exact ⟨xs, rfl, h⟩
theorem rdL_map {e : Operand → AV} {ρ : Operand → Value} (hρ : ∀ x, Rd G w (e x) (ρ x)) : ∀ l : List Operand, RdL G w (l.map e) (l.map ρ)
  | [] => by simp [RdL]
  | x :: l => by simp only [List.map_cons, RdL]; exact ⟨_, _, rfl, hρ x, rdL_map hρ l⟩
theorem chunks_flat {es : Option Nat} : ∀ (xs : List AV), (∀ x ∈ xs, shA es x) → chunks es xs.length (xs.flatMap fun x => (cellsA x).getD []) = xs
  | [], _ => by cases es <;> simp [chunks]
  | x :: xs, h => by
    have hx := h x (by simp)
    have ih := chunks_flat xs (fun y hy => h y (by simp [hy]))
    cases es with
    | none =>
      simp only [shA] at hx
      simp only [chunks, List.flatMap_cons, hx, Option.getD_some, List.length_cons, List.cons_append, List.nil_append, List.take_succ_cons] at ih ⊢
      rw [ih]
    | some n =>
      obtain ⟨ys, rfl, hn⟩ := hx
      have e1 : cellsA (.agg ys) = some ys := rfl
      simp only [List.length_cons, chunks, List.flatMap_cons, e1, Option.getD_some]
      subst hn
      rw [List.take_left, List.drop_left, ih]
theorem length_flatMap {n : Nat} : ∀ (xs : List AV), (∀ x ∈ xs, ∃ ys, cellsA x = some ys ∧ ys.length = n) → (xs.flatMap fun x => (cellsA x).getD []).length = xs.length * n
  | [], _ => by simp
  | x :: xs, h => by
    obtain ⟨ys, hy, hn⟩ := h x (by simp)
    simp only [List.flatMap_cons, hy, Option.getD_some, List.length_append, List.length_cons, Nat.add_mul, Nat.one_mul]
    rw [length_flatMap xs fun y hy => h y (by simp [hy])]; omega
theorem flat_eq {es : Option Nat} {xs : List AV} (h : ∀ x ∈ xs, shA es x) : flat es xs = xs.flatMap fun x => (cellsA x).getD [] := by
  cases es with
  | none =>
    simp only [flat]
    induction xs with
    | nil => rfl
    | cons x xs ih =>
      have hx := h x (by simp)
      simp only [shA] at hx
      simp only [List.flatMap_cons, hx, Option.getD_some, List.cons_append, List.nil_append]
      rw [← ih fun y hy => h y (by simp [hy])]
  | some n => rfl
theorem allSh_mem {es : Option Nat} : ∀ {xs : List AV}, allSh es xs → ∀ x ∈ xs, shA es x ∧ x.free = true
  | [], _, x, hx => by simp at hx
  | y :: ys, h, x, hx => by
    simp only [allSh] at h
    rcases List.mem_cons.1 hx with rfl | hx
    · exact ⟨h.1, h.2.1⟩
    · exact allSh_mem h.2.2 x hx
theorem allShW_mem {es : Option Nat} : ∀ {xs : List AV}, allShW es xs → ∀ x ∈ xs, shA es x
  | [], _, x, hx => by simp at hx
  | y :: ys, h, x, hx => by
    simp only [allShW] at h
    rcases List.mem_cons.1 hx with rfl | hx
    · exact h.1
    · exact allShW_mem h.2 x hx
theorem bslice_run {T E : TypeId} {es : Option Nat} {i : TypeInfo} {z : Value} (hT : P.underlying T = some (.slice E)) (hE : szT P E = some es) (hi : P.info? E = some i) (hz : i.zero = some z)
    {e : Operand → AV} {ρ : Operand → Value} (hρ : ∀ x, Rd G w (e x) (ρ x)) (hgl : ∀ x, (e x).gl c) (l : List Operand) (h0 : 0 < l.length) (hes : 0 < esz es) (hbig : l.length * esz es ≤ 16777216)
    (hone : ∀ u ∈ ((Array.range (l.length * esz es)).map (z.cells[· % z.cells.size]!)).toList, u.oneCell' = true) (hsh : ∀ x ∈ l.map e, shA es x) :
    ∃ vs : List Value, (Instr.buildSlice T l.length (((List.range l.length).zip l).toArray.map fun p => (p.1, ρ p.2))).run P w = .ok (.slice (some ⟨w.heap.size, 0, none⟩) l.length l.length) (w.alloc (.cells vs.toArray E)) ∧
      RdL G w (flat es (l.map e)) vs ∧ (∀ u ∈ vs, u.oneCell' = true) ∧ vs.length = l.length * esz es ∧ AV.gl.glL c (flat es (l.map e)) := by
  let z0 : Array Value := (Array.range (l.length * esz es)).map (z.cells[· % z.cells.size]!)
  have hz0 : z0.size = l.length * esz es := by simp [z0]
  have hpl := bslice_places (esz es) es l 0
  have hrange : List.range l.length = List.range' 0 l.length := List.range_eq_range'
  have hcells : ∀ x ∈ l, ∃ ys, cellsA (e x) = some ys ∧ ys.length = esz es := fun x hx => shA_cells (hsh (e x) (List.mem_map.2 ⟨x, hx, rfl⟩))
  have hflat := aBuild_flat (e := e) (n := esz es) l 0 [] (z0.toList.map .sc) (by simp) hcells (by simp [hz0])
  simp only [List.nil_append] at hflat
  obtain ⟨out, k1, k2, k3⟩ := fill_sound (c := c) hρ hgl _ _ z0 (z0.toList.map .sc) hpl (rdL_sc _) hone (glL_sc _) hflat.2
  rw [hflat.1] at k2 k3
  simp only [Rd] at k2
  simp only [AV.gl] at k3
  obtain ⟨vs, hvs, hr, ho⟩ := k2
  have hout : out = vs.toArray := by cases hvs; rfl
  subst hout
  have hfm : (l.flatMap fun x => (cellsA (e x)).getD []) = flat es (l.map e) := by rw [flat_eq hsh]; simp [List.flatMap_map]
  rw [hfm] at hr k3
  have hlen : vs.length = l.length * esz es := by
    rw [hr.length, flat_eq hsh, length_flatMap _ fun x hx => shA_cells (hsh x hx)]; simp
  refine ⟨vs, ?_, hr, ho, hlen, k3⟩
  have hs := sizeOf_run hE w
  have hne : ¬ (l.length * esz es = 0) := by
    intro h'; rcases Nat.mul_eq_zero.1 h' with h' | h' <;> omega
  have hb : ¬ (16777216 < l.length * esz es) := by omega
  rw [hrange]
  simp only [Instr.buildSlice]
  simp [underlying, hT, hs, hne, hb, zeroValue, typeInfo, hi, hz, newRow]
  have k1' : Instr.fill (fun i => some (i * esz es, esz es)) (Array.map (fun x => z.cells[x % z.cells.size]!) (Array.range (l.length * esz es))) (((List.range' 0 l.length).zip l).map fun p => (p.1, ρ p.2)) = some vs.toArray := k1
  rw [k1']
  rfl
theorem aBslice_sound {T E : TypeId} {es : Option Nat} {i : TypeInfo} {z : Value} (hT : P.underlying T = some (.slice E)) (hE : szT P E = some es) (hi : P.info? E = some i) (hz : i.zero = some z) (hH : Heap c M G hp w)
    {e : Operand → AV} {ρ : Operand → Value} (hρ : ∀ x, Rd G w (e x) (ρ x)) (hgl : ∀ x, (e x).gl c) (l : List Operand) (h0 : 0 < l.length) (hes : 0 < esz es) (hbig : l.length * esz es ≤ 16777216)
    (hone : ∀ u ∈ ((Array.range (l.length * esz es)).map (z.cells[· % z.cells.size]!)).toList, u.oneCell' = true)
    (h : (aBslice es (l.map e)).1) :
    ∃ v w', (Instr.buildSlice T l.length (((List.range l.length).zip l).toArray.map fun p => (p.1, ρ p.2))).run P w = .ok v w' ∧ Res c M G w (aBslice es (l.map e)).2 hp c v w' := by
  unfold aBslice at *
  simp only at h ⊢
  have h := allSh_mem h
  let z0 : Array Value := (Array.range (l.length * esz es)).map (z.cells[· % z.cells.size]!)
  have hz0 : z0.size = l.length * esz es := by simp [z0]
  have hpl := bslice_places (esz es) es l 0
  have hrange : List.range l.length = List.range' 0 l.length := List.range_eq_range'
  have hsh : ∀ x ∈ l.map e, shA es x := fun x hx => (h x hx).1
  have hcells : ∀ x ∈ l, ∃ ys, cellsA (e x) = some ys ∧ ys.length = esz es := fun x hx => shA_cells (hsh (e x) (List.mem_map.2 ⟨x, hx, rfl⟩))
  have hflat := aBuild_flat (e := e) (n := esz es) l 0 [] (z0.toList.map .sc) (by simp) hcells (by simp [hz0])
  simp only [List.nil_append] at hflat
  obtain ⟨out, k1, k2, k3⟩ := fill_sound (c := c) hρ hgl _ _ z0 (z0.toList.map .sc) hpl (rdL_sc _) hone (glL_sc _) hflat.2
  rw [hflat.1] at k2
  simp only [Rd] at k2
  obtain ⟨vs, hvs, hr, ho⟩ := k2
  have hout : out = vs.toArray := by cases hvs; rfl
  subst hout
  have hfm : (l.flatMap fun x => (cellsA (e x)).getD []) = (l.map e).flatMap fun x => (cellsA x).getD [] := by simp [List.flatMap_map]
  rw [hfm] at hr
  have hlen : vs.length = l.length * esz es := by
    rw [hr.length, length_flatMap _ fun x hx => shA_cells (hsh x hx)]; simp
  have hch := hr.chunks (es := es) (n := l.length) ho
  have hc := chunks_flat (l.map e) hsh
  rw [List.length_map] at hc
  rw [hc] at hch
  have hrun : (Instr.buildSlice T l.length (((List.range l.length).zip l).toArray.map fun p => (p.1, ρ p.2))).run P w = .ok (.slice (some ⟨w.heap.size, 0, none⟩) l.length l.length) (w.alloc (.cells vs.toArray E)) := by
    have hs := sizeOf_run hE w
    have hne : ¬ (l.length * esz es = 0) := by
      intro h'; rcases Nat.mul_eq_zero.1 h' with h' | h' <;> omega
    have hb : ¬ (16777216 < l.length * esz es) := by omega
    rw [hrange]
    simp only [Instr.buildSlice]
    simp [underlying, hT, hs, hne, hb, zeroValue, typeInfo, hi, hz, newRow]
    have k1' : Instr.fill (fun i => some (i * esz es, esz es)) (Array.map (fun x => z.cells[x % z.cells.size]!) (Array.range (l.length * esz es))) (((List.range' 0 l.length).zip l).map fun p => (p.1, ρ p.2)) = some vs.toArray := k1
    rw [k1']
    rfl
  refine ⟨_, _, hrun, ?_⟩
  refine res_frozen hH (alloc_keep _ _) (by rw [alloc_size]; omega) ?_ ?_
  · simp only [AV.gl]
    exact glL_iff.2 fun x hx => by
      obtain ⟨y, _, rfl⟩ := List.mem_map.1 hx
      exact hgl y
  · intro G' hS hS' hE'
    have hch' := RdL.mono hE' _ _ (glL_iff.2 fun x hx => by
      obtain ⟨y, _, rfl⟩ := List.mem_map.1 hx
      exact hgl y) hch
    simp only [Rd]
    refine ⟨some ⟨w.heap.size, 0, none⟩, l.length, l.length, chunksV es l.length vs, rfl, (length_chunksV _ _ _ (by omega)).symm, Nat.le_refl _, hch', by simp, by simp, ?_⟩
    intro a ha _
    simp at ha; subst ha
    refine ⟨rfl, hS', fun i v hv => ?_⟩
    obtain ⟨a1, a2, a3⟩ := chunksV_get ho (by omega) hv
    refine ⟨a2, fun j u hu => ?_⟩
    rw [a3, List.getElem?_take] at hu
    split at hu
    · simp only [World.cell?, alloc_get]
      simpa using hu
    · simp at hu
end
end Go.Proofs.YtbmmdkbinlnogaaDoor.Aw
