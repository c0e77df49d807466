/- Parts of the proofs of Eo. -/
import Derived.Test.YtbmmdkbinlnogaaDoorQEoAG
namespace Go.Proofs.YtbmmdkbinlnogaaDoor.Aw
open Go
set_option linter.unusedSimpArgs false
set_option linter.unusedVariables false
section
variable {P : Program} {G : Gh} {w : World} {c : Nat} {M : Nat → Prop} {hp : Hp}
theorem rd_op_put {id g nb : Nat} {w' : World} (hs : ∃ p, w'.shape? nb = some p) : Rd (putG G id g nb) w' (.op id g 0) (.pointer (some ⟨nb, 0, none⟩)) := rd_op (putG_at _ _ _ _) hs
theorem rd_own_put {id g nb n cap : Nat} {es : Option Nat} {w' : World} {E : TypeId} {k : Nat} (hn : n ≤ cap) (hs : w'.shape? nb = some (E, k)) (hk : cap * esz es ≤ k) :
    Rd (putG G id g nb) w' (.own id g es 0 n) (.slice (some ⟨nb, 0, none⟩) n cap) := by
  simp only [Rd]
  refine ⟨.inr ⟨nb, cap, 0, rfl, hn, .inl rfl⟩, fun ob hob => ?_⟩
  rw [putG_at] at hob
  cases hob
  exact ⟨cap, 0, E, k, rfl, hn, .inl rfl, hs, by omega⟩
theorem res_alloc (hH : Heap c M G hp w) (hM : ∀ b, w.heap.size ≤ b → M b) {w' : World} (hk : Keep w.heap.size (fun _ => False) w w') (hlt : w.heap.size < w'.heap.size) (d : Nat) {cells : List AV} {vs : List Value} {cs : Array Value} {E : TypeId}
    (hnew : w'.heap[w.heap.size]? = some (.cells cs E (0, 0))) (hr : RdL G w cells vs) (hgl : AV.gl.glL c cells) (hcs : ∀ (j : Nat) (v : Value), vs[j]? = some v → cs[j]? = some v) (h1 : ∀ v ∈ vs, v.oneCell' = true)
    {r : AV} {x : Value} (hx : Rd (putG G d c w.heap.size) w' r x) (hg : r.gl (c + 1)) : Res c M G w r (updH hp d (some (c, .row false cells))) (c + 1) x w' := by
  obtain ⟨hE, hH'⟩ := heap_alloc hH hk hlt d hM hnew hr hgl hcs h1
  exact ⟨_, hE, hH', hx, hg, by omega, hk.mono (Nat.le_refl _) (fun _ _ h => h.elim), fun _ h => .inl h⟩
theorem zeroT_spec {t : TypeId} {z : List Value} (h : zeroT P t = some z) : ∃ i zv, P.info? t = some i ∧ i.zero = some zv ∧ zv.cells.toList = z ∧ ∀ u ∈ z, u.oneCell' = true := by
  unfold zeroT at h
  cases hi : P.info? t with
  | none => rw [hi] at h; simp at h
  | some i =>
    rw [hi] at h
    simp only [Option.bind_some] at h
    cases hz : i.zero with
    | none => rw [hz] at h; simp at h
    | some zv =>
      rw [hz] at h
      simp only at h
      split at h
      · rename_i hall
        simp at h
        subst h
        exact ⟨i, zv, rfl, hz, rfl, List.all_eq_true.1 hall⟩
      · simp at h
theorem alloc_sound {T : TypeId} {z : List Value} (hz : zeroT P T = some z) (hH : Heap c M G hp w) (hM : ∀ b, w.heap.size ≤ b → M b) (d : Nat) :
    ∃ v w', (Instr.alloc T true (.tuple #[])).run P w = .ok v w' ∧ Res c M G w (.op d c 0) (updH hp d (some (c, .row false (z.map .sc)))) (c + 1) v w' := by
  obtain ⟨i, zv, hi, hzz, rfl, h1⟩ := zeroT_spec hz
  refine ⟨.pointer (some ⟨w.heap.size, 0, none⟩), w.alloc (.cells zv.cells T), ?_, ?_⟩
  · simp [Instr.alloc, zeroValue, typeInfo, hi, hzz, newVar, newRow]
  · exact res_alloc hH hM (alloc_keep _ _) (by rw [alloc_size]; omega) d (alloc_get _ _) (rdL_sc _) (glL_sc _) (fun j v hv => by simpa using hv) h1 (rd_op_put ⟨_, by simp only [World.shape?, alloc_get]; rfl⟩) (by simp [AV.gl])
theorem emp_sound {T E : TypeId} {es : Option Nat} (hT : P.underlying T = some (.slice E)) (hE : szT P E = some es) (hH : Heap c M G hp w) (hM : ∀ b, w.heap.size ≤ b → M b) (d : Nat) :
    ∃ v w', (Instr.buildSlice T 0 #[]).run P w = .ok v w' ∧ Res c M G w (.own d c es 0 0) (updH hp d (some (c, .row false []))) (c + 1) v w' := by
  refine ⟨.slice (some ⟨w.heap.size, 0, none⟩) 0 0, w.alloc (.cells #[] E), ?_, ?_⟩
  · have hs := sizeOf_run hE w
    simp [Instr.buildSlice, underlying, hT, hs, newRow, Instr.fill, Array.range_zero']
  · exact res_alloc hH hM (alloc_keep _ _) (by rw [alloc_size]; omega) d (alloc_get _ _) (vs := []) (by simp [RdL]) (by simp [AV.gl.glL]) (fun j v hv => by simp at hv) (by simp) (rd_own_put (E := E) (k := 0) (by omega) (by simp only [World.shape?, alloc_get]; rfl) (by omega)) (by simp [AV.gl])
theorem aBsl_sound {T E : TypeId} {es : Option Nat} {i : TypeInfo} {z : Value} (hT : P.underlying T = some (.slice E)) (hE : szT P E = some es) (hi : P.info? E = some i) (hz : i.zero = some z) (hH : Heap c M G hp w) (hM : ∀ b, w.heap.size ≤ b → M b) (d : Nat)
    {e : Operand → AV} {ρ : Operand → Value} (hρ : ∀ x, Rd G w (e x) (ρ x)) (hgl : ∀ x, (e x).gl c) (l : List Operand) (h0 : 0 < l.length) (hes : 0 < esz es) (hbig : l.length * esz es ≤ 16777216)
    (hone : ∀ u ∈ ((Array.range (l.length * esz es)).map (z.cells[· % z.cells.size]!)).toList, u.oneCell' = true)
    (h : (aBsl es (l.map e) hp c d).1) :
    ∃ v w', (Instr.buildSlice T l.length (((List.range l.length).zip l).toArray.map fun p => (p.1, ρ p.2))).run P w = .ok v w' ∧ Res c M G w (aBsl es (l.map e) hp c d).2.1 (aBsl es (l.map e) hp c d).2.2.1 (aBsl es (l.map e) hp c d).2.2.2 v w' := by
  obtain ⟨vs, k1, k2, k3, k4, k5⟩ := bslice_run (c := c) hT hE hi hz hρ hgl l h0 hes hbig hone (allShW_mem h)
  refine ⟨_, _, k1, ?_⟩
  simp only [aBsl, List.length_map]
  exact res_alloc hH hM (alloc_keep _ _) (by rw [alloc_size]; omega) d (alloc_get _ _) k2 k5 (fun j v hv => by simpa using hv) k3 (rd_own_put (E := E) (k := vs.toArray.size) (Nat.le_refl _) (by simp only [World.shape?, alloc_get]) (by rw [List.size_toArray, k4]; exact Nat.le_refl _)) (by simp [AV.gl])
theorem freeze_get {w : World} {b k n : Nat} {cs : Array Value} {E : TypeId} (h : w.heap[b]? = some (.cells cs E (0, 0))) : (w.freeze ⟨b, k, none⟩ 1).heap[b]? = some (.cells cs E (k, k + 1)) ∧ (∀ i, i ≠ b → (w.freeze ⟨b, k, none⟩ 1).heap[i]? = w.heap[i]?) ∧
    (w.freeze ⟨b, k, none⟩ 1).heap.size = w.heap.size := by
  unfold World.freeze
  rw [if_neg (by decide)]
  refine ⟨?_, fun i hi => ?_, ?_⟩
  · show (w.heap.modify b _)[b]? = _
    rw [Array.getElem?_modify, if_pos rfl, h]; rfl
  · show (w.heap.modify b _)[i]? = _
    rw [Array.getElem?_modify, if_neg (fun e => hi e.symm)]
  · show (w.heap.modify b _).size = _
    rw [Array.size_modify]
theorem aStrz_sound {T E : TypeId} (hT : P.underlying T = some (.slice E)) (hE : P.underlying E = some (.int .u8)) (hH : Heap c M G hp w) {x : AV} {vx : Value} (hx : Rd G w x vx) (h : (aStrz x hp c).1) :
    ∃ v w', (convert T T vx).run P w = .ok v w' ∧ Res c M G w (aStrz x hp c).2.1 (aStrz x hp c).2.2.1 (aStrz x hp c).2.2.2 v w' := by
  unfold aStrz at *
  split at h
  · rename_i id g es lo n
    split at h
    · rename_i g' nl cells hid
      obtain ⟨rfl, rfl, rfl, hlen⟩ := h
      obtain ⟨ob, k1, k2, k3, k4⟩ := hH.rowC _ _ _ _ hid
      have hgl := (hH.gl _ _ _ _ hid).2
      simp only [Rd] at hx
      have hx := hx.2 _ k1
      cases ob with
      | none => simp at k2
      | some b =>
        obtain ⟨cap, o, E'', k, rfl, r1, r2, r3, r4⟩ := hx
        obtain ⟨q1, q2, vs, cs, E', q3, q4, q5, q6⟩ := k4 b rfl ⟨_, r3⟩
        obtain ⟨f1, f2, f3⟩ := freeze_get (k := cs.size) (n := 0) q3
        have hne : ∀ b', G.S b' → b' ≠ b := fun b' hb e => q1 (e ▸ hb)
        have hshape : ∀ b' p, w.shape? b' = some p → (w.freeze ⟨b, cs.size, none⟩ 1).shape? b' = some p := by
          intro b' p hp'
          by_cases e : b' = b
          · subst e
            simp only [World.shape?, q3] at hp'
            simp only [World.shape?, f1]; exact hp'
          · simp only [World.shape?, f2 b' e]; exact hp'
        have hE2 : Ext c G w ⟨fun b' => G.S b' ∨ b' = b, fun i k => if i = id then none else G.ob i k⟩ (w.freeze ⟨b, cs.size, none⟩ 1) := by
          refine ⟨fun _ h => .inl h, fun b' hb => f2 b' (hne b' hb), hshape, fun i k ob _ ho => ?_⟩
          simp only at ho
          split at ho
          · simp at ho
          · exact ho
        have hl := q4.length
        refine ⟨.slice (some ⟨b, o, none⟩) n cap, w.freeze ⟨b, cs.size, none⟩ 1, ?_, _, hE2, ⟨?_, ?_, ?_, ?_, ?_⟩, ?_, ?_, Nat.le_refl _, ⟨?_, ?_, ?_, by rw [f3]; exact Nat.le_refl _, ?_⟩, ?_⟩
        · have hsh : w.shape? b = some (E', cs.size) := by simp only [World.shape?, q3]
          simp [convert, underlying, hT, hE, markStringish, hsh]
        · rintro b' (hb | rfl)
          · rw [f3]; exact hH.lt b' hb
          · rw [f3]; exact lt_of_some q3
        · intro i k ob ho
          simp only at ho
          split at ho
          · simp at ho
          · rename_i e
            obtain ⟨o, h1⟩ := hH.live _ _ _ ho
            exact ⟨o, by simp only [updH]; rw [if_neg e]; exact h1⟩
        · intro i k nl cells ho
          simp only [updH] at ho
          split at ho
          · simp at ho
          · exact hH.gl _ _ _ _ ho
        · intro i k i' k' b' h1 h2
          simp only at h1 h2
          split at h1
          · simp at h1
          · split at h2
            · simp at h2
            · exact hH.inj _ _ _ _ _ h1 h2
        · intro i k nl cells ho
          simp only [updH] at ho
          split at ho
          · simp at ho
          · rename_i e
            obtain ⟨ob, j1, j2, j3, j4⟩ := hH.row _ _ _ _ ho
            refine ⟨ob, by simp only; rw [if_neg e]; exact j1, j2, j3, fun b' hb => ?_⟩
            obtain ⟨p1, p2, us, p4, p3⟩ := j4 b' hb
            have hbb : b' ≠ b := by
              intro e'
              rw [hb, e'] at j1
              exact e (hH.inj _ _ _ _ _ j1 k1)
            exact ⟨fun h => h.elim p1 hbb, p2, us, RdL.mono hE2 _ _ (hH.gl _ _ _ _ ho).2 p4, by rw [f2 b' hbb]; exact p3⟩
        · have hvs' := RdL.mono hE2 _ _ hgl q4
          have hle : n * esz none ≤ (vs.drop lo).length := by simp [esz]; omega
          simp only [Rd]
          refine ⟨some ⟨b, o, none⟩, n, cap, chunksV none n (vs.drop lo), rfl, (length_chunksV _ _ _ hle).symm, r1, (hvs'.drop lo).chunks (fun u hu => q6 u (List.mem_of_mem_drop hu)), by simp, by simp, ?_⟩
          intro a ha _
          simp at ha
          subst ha
          refine ⟨rfl, .inr rfl, fun i v hv => ?_⟩
          obtain ⟨a1, a2, a3⟩ := chunksV_get (fun v hv => q6 v (List.mem_of_mem_drop hv)) hle hv
          refine ⟨a2, fun j u hu => ?_⟩
          have e : o = lo := by
            rcases r2 with r2 | r2
            · exact r2
            · have hlt : i < (chunksV none n (vs.drop lo)).length := by
                rcases Nat.lt_or_ge i (chunksV none n (vs.drop lo)).length with h' | h'
                · exact h'
                · rw [List.getElem?_eq_none h'] at hv; simp at hv
              rw [length_chunksV _ _ _ hle] at hlt
              omega
          subst e
          rw [a3, List.getElem?_take] at hu
          split at hu
          · have : vs[o + (i * esz none + j)]? = some u := by simpa [Nat.add_assoc] using hu
            have := q5 _ _ this
            simp only [World.cell?, f1]
            simpa [Nat.add_assoc] using this
          · simp at hu
        · simp only [AV.gl, chunks]
          exact glL_take (glL_drop hgl)
        · rfl
        · rfl
        · rfl
        · intro k _ hm
          exact f2 k (fun e => hm (e ▸ q2))
        · rintro b' (hb | rfl)
          · exact .inl hb
          · exact .inr (.inr q2)
    · exact absurd h (by simp)
  · exact absurd h (by simp)
theorem aBox_sound {T : TypeId} (hH : Heap c M G hp w) (hM : ∀ b, w.heap.size ≤ b → M b) (d : Nat) {x : AV} {vx : Value} (hx : Rd G w x vx) (hg : x.gl c) (h : (aBox x hp c d).1) :
    ∃ v w', (Instr.box T vx).run P w = .ok v w' ∧ Res c M G w (aBox x hp c d).2.1 (aBox x hp c d).2.2.1 (aBox x hp c d).2.2.2 v w' := by
  unfold aBox at *
  cases hc : cellsA x with
  | none => rw [hc] at h; exact absurd h (by simp)
  | some ys =>
    simp only
    refine ⟨.pointer (some ⟨w.heap.size, 0, none⟩), w.alloc (.cells vx.cells T), ?_, ?_⟩
    · simp [Instr.box, newVar, newRow]
    · exact res_alloc hH hM (alloc_keep _ _) (by rw [alloc_size]; omega) d (alloc_get _ _) (hx.cells hc) (cells_gl hg hc) (fun j v hv => by simpa using hv) (cells_ones hx hc) (rd_op_put ⟨_, by simp only [World.shape?, alloc_get]; rfl⟩) (by simp [AV.gl])
theorem flatten_replicate_getElem? (z : List Value) (n j : Nat) (v : Value) (h : (List.replicate n z).flatten[j]? = some v) : j < n * z.length ∧ z[j % z.length]? = some v := by
  induction n generalizing j with
  | zero => simp at h
  | succ n ih =>
    simp only [List.replicate_succ, List.flatten_cons] at h
    rw [Nat.add_mul, Nat.one_mul]
    by_cases hj : j < z.length
    · rw [List.getElem?_append_left hj] at h
      rw [Nat.mod_eq_of_lt hj]
      exact ⟨by omega, h⟩
    · rw [List.getElem?_append_right (by omega)] at h
      obtain ⟨a, b⟩ := ih _ h
      refine ⟨by omega, ?_⟩
      rw [Nat.mod_eq_sub_mod (by omega)]
      exact b
theorem aMks_sound {T E : TypeId} {es : Option Nat} {i : TypeInfo} {zv : Value} (hT : P.underlying T = some (.slice E)) (hE : szT P E = some es) (hi : P.info? E = some i) (hz : i.zero = some zv) (hsz : zv.cells.size = i.size) (hes : i.size = esz es)
    (hone : ∀ u ∈ zv.cells.toList, u.oneCell' = true)
    (hH : Heap c M G hp w) (hM : ∀ b, w.heap.size ≤ b → M b) (d : Nat) {l k : AV} {vl vk : Value} (hl : Rd G w l vl) (hk : Rd G w k vk) (h : (aMks es i.bytes zv.cells.toList l k hp c d).1) :
    ∃ v w', (Instr.makeSlice T vl vk).run P w = .ok v w' ∧ Res c M G w (aMks es i.bytes zv.cells.toList l k hp c d).2.1 (aMks es i.bytes zv.cells.toList l k hp c d).2.2.1 (aMks es i.bytes zv.cells.toList l k hp c d).2.2.2 v w' := by
  unfold aMks at *
  split at h
  · rename_i kl l kk k
    have hl := hl.sc_inv
    have hk := hk.sc_inv
    subst hl; subst hk
    obtain ⟨h0, h1, h2, h3, h4⟩ := h
    have hrun := run_make (P := P) w T E i zv hT hi hz kl kk l k h0 h1 (by rw [Int.mul_comm]; omega) (by omega)
    refine ⟨_, _, hrun, ?_⟩
    have hm : ((List.replicate l.toNat (zv.cells.toList.map AV.sc)).flatten) = ((List.replicate l.toNat zv.cells.toList).flatten).map AV.sc := by
      simp [List.map_flatten]
    simp only [hm]
    refine res_alloc hH hM (alloc_keep _ _) (by rw [alloc_size]; omega) d (alloc_get _ _) (rdL_sc _) (glL_sc _) ?_ ?_ (rd_own_put (E := E) (k := k.toNat * i.size) (by omega) ?_ (by rw [hes]; exact Nat.le_refl _)) (by simp [AV.gl])
    · intro j v hv
      obtain ⟨a, b⟩ := flatten_replicate_getElem? _ _ _ _ hv
      have hz2 : zv.cells.toList.length = i.size := by rw [Array.length_toList]; exact hsz
      rw [hz2] at a b
      have hjk : j < k.toNat * i.size := Nat.lt_of_lt_of_le a (Nat.mul_le_mul_right _ (by omega))
      have hv' : zv.cells[j % i.size]? = some v := by simpa using b
      have hv'' : zv.cells[j % zv.cells.size]! = v := by
        rw [hsz, getElem!_def, hv']
      simp [madeCells, hjk, hv'']
    · intro u hu
      simp only [List.mem_flatten, List.mem_replicate] at hu
      obtain ⟨z', ⟨_, rfl⟩, hu⟩ := hu
      exact hone u hu
    · simp only [World.shape?, alloc_get, size_madeCells]
  · exact absurd h (by simp)
theorem setRow_get (w : World) (g : Nat) (cs cur : Array Value) (t : TypeId) (fr : Nat × Nat) (hg : w.heap[g]? = some (.cells cur t fr)) : (w.setRow g cs).heap[g]? = some (.cells cs t fr) := by
  simp only [World.setRow, Array.getElem?_modify, if_pos, hg]
  rfl
theorem setRow_other (w : World) (g : Nat) (cs : Array Value) (b : Nat) (h : b ≠ g) : (w.setRow g cs).heap[b]? = w.heap[b]? := by
  simp only [World.setRow, Array.getElem?_modify]
  rw [if_neg (fun e => h e.symm)]
theorem setRow_size (w : World) (g : Nat) (cs : Array Value) : (w.setRow g cs).heap.size = w.heap.size := by simp [World.setRow]
theorem CopyRow_self (w : World) (g : Nat) (cur : Array Value) (t : TypeId) (hg : w.heap[g]? = some (.cells cur t (0, 0))) : w.setRow g cur = w := setRow_self w g cur t (0, 0) hg
theorem res_row (hH : Heap c M G hp w) {id g g' b c' : Nat} (hob : G.ob id g = some (some b)) {cs cs' : Array Value} {E : TypeId} (hb : w.heap[b]? = some (.cells cs E (0, 0))) (hsz : cs'.size = cs.size) (hMb : M b) {cells : List AV} {vs : List Value}
    (hg : (g' = c ∧ c' = c + 1) ∨ (g' = g ∧ c' = c)) (hr : RdL G w cells vs) (hgl : AV.gl.glL c cells) (hcs : ∀ (j : Nat) (v : Value), vs[j]? = some v → cs'[j]? = some v) (h1 : ∀ v ∈ vs, v.oneCell' = true)
    {r : AV} {x : Value} (hx : Rd (putG G id g' b) (w.setRow b cs') r x) (hgr : r.gl c') : Res c M G w r (updH hp id (some (g', .row false cells))) c' x (w.setRow b cs') := by
  obtain ⟨hE, hH'⟩ := heap_put (w' := w.setRow b cs') hH (id := id) (g := g') (nb := b) (c' := c') (by rw [setRow_size]; exact Nat.le_refl _) (fun b' _ h => setRow_other _ _ _ _ h) (fun p hp => by
      simp only [World.shape?, hb] at hp
      simp only [World.shape?, setRow_get _ _ _ _ _ _ hb, hsz]
      exact hp) (.inr ⟨g, hob⟩) hMb (setRow_get _ _ _ _ _ _ hb) (by
      rcases hg with ⟨rfl, rfl⟩ | ⟨rfl, rfl⟩
      · exact .inl ⟨rfl, rfl⟩
      · exact .inr ⟨hob, rfl⟩) hr hgl hcs h1
  refine ⟨_, hE, hH', hx, hgr, by rcases hg with ⟨_, rfl⟩ | ⟨_, rfl⟩ <;> omega, ⟨rfl, rfl, rfl, by rw [setRow_size]; exact Nat.le_refl _, fun k _ hk => setRow_other _ _ _ _ (fun e => hk (e ▸ hMb))⟩, fun _ h => .inl h⟩
theorem splice_get {vs us : List Value} {cs : Array Value} {o : Nat} (hcs : ∀ (j : Nat) (v : Value), vs[j]? = some v → cs[j]? = some v) (ho : o ≤ vs.length) (hle : o + us.length ≤ cs.size) :
    ∀ (j : Nat) (u : Value), (vs.take o ++ us ++ vs.drop (o + us.length))[j]? = some u → (cs.toList.take o ++ us ++ cs.toList.drop (o + us.length)).toArray[j]? = some u := by
  intro j u hu
  rw [List.getElem?_append] at hu
  have hA : (vs.take o ++ us).length = o + us.length := by simp; omega
  have hB : (cs.toList.take o ++ us).length = o + us.length := by simp; omega
  simp only [List.getElem?_toArray]
  rw [List.getElem?_append, hB]
  rw [hA] at hu
  split at hu
  · rename_i hj
    rw [if_pos hj]
    rw [List.getElem?_append] at hu ⊢
    have hA' : (vs.take o).length = o := by simp; omega
    have hB' : (cs.toList.take o).length = o := by simp; omega
    rw [hA'] at hu
    rw [hB']
    split at hu
    · rename_i hj'
      rw [if_pos hj', List.getElem?_take, if_pos hj']
      rw [List.getElem?_take, if_pos hj'] at hu
      have := hcs j u hu
      simpa using this
    · rename_i hj'
      rw [if_neg hj']
      exact hu
  · rename_i hj
    rw [if_neg hj]
    rw [List.getElem?_drop] at hu ⊢
    have := hcs _ u hu
    simpa using this
theorem le_size {vs : List Value} {cs : Array Value} (hcs : ∀ (j : Nat) (v : Value), vs[j]? = some v → cs[j]? = some v) : vs.length ≤ cs.size := by
  rcases Nat.lt_or_ge cs.size vs.length with h' | h'
  · exfalso
    have h2 := hcs (vs.length - 1) vs[vs.length - 1] (List.getElem?_eq_getElem (by omega))
    rw [Array.getElem?_eq_none (by omega)] at h2
    simp at h2
  · exact h'
theorem aStore_sound {T : TypeId} {sz : Option Nat} (hT : szT P T = some sz) (hH : Heap c M G hp w) {x v : AV} {vx vv : Value} (hx : Rd G w x vx) (hv : Rd G w v vv) (hgv : v.gl c) (h : (aStore sz x v hp c).1) :
    ∃ w', (Instr.storeAt T vx vv).run P w = .ok () w' ∧ Res c M G w .junk (aStore sz x v hp c).2.2.1 (aStore sz x v hp c).2.2.2 undef w' := by
  unfold aStore at *
  cases x with
  | op id g o =>
    cases hc : cellsA v with
    | none => rw [hc] at h; exact absurd h (by simp)
    | some ys =>
      rw [hc] at h
      simp only at h ⊢
      cases hid : hp id with
      | none => rw [hid] at h; exact absurd h (by simp)
      | some q =>
        obtain ⟨g', obj⟩ := q
        cases obj with
        | row nl cells =>
          rw [hid] at h
          simp only at h ⊢
          obtain ⟨rfl, h1, h2⟩ := h
          obtain ⟨ob, hob, hnl, _, hrow⟩ := hH.rowC _ _ _ _ hid
          simp only [Rd] at hx
          obtain ⟨b, rfl, rfl, hsh⟩ := hx.2 _ hob
          obtain ⟨_, hMb, vs, cs, E', hb, hvs, hcs, hones⟩ := hrow b rfl hsh
          have hnl' : nl = false := by cases nl <;> simp_all
          subst hnl'
          have hlv := (hv.cells hc).length
          have hl := hvs.length
          have hov := cells_ones hv hc
          have hle := le_size hcs
          have hst := run_storeCells_at (P := P) b o E' vv.cells.toList 0 cs w hb (by omega) hov
          simp only [Nat.add_zero] at hst
          refine ⟨w.setRow b (cs.toList.take o ++ vv.cells.toList ++ cs.toList.drop (o + vv.cells.toList.length)).toArray, ?_, res_row hH (g' := g') (c' := c) hob hb ?_ hMb (.inr ⟨rfl, rfl⟩) (cells := splice o ys cells) (vs := vs.take o ++ vv.cells.toList ++ vs.drop (o + vv.cells.toList.length)) ?_ ?_ ?_ ?_ (by simp [Rd]) (by simp [AV.gl])⟩
          · have hsz : vv.cells.size = esz sz := by rw [← Array.length_toList]; omega
            simp only [Instr.storeAt, Instr.sureAddr, storeVar]
            have hl2 : vv.cells.toList.length = esz sz := by omega
            rw [hl2, List.append_assoc] at hst
            simp [sizeOf_run hT, hsz]
            rw [hst]
          · have hl3 : vv.cells.size = vv.cells.toList.length := (Array.length_toList).symm
            simp
            rw [hl3]
            omega
          · rw [hlv]
            exact ((hvs.take o).append (hv.cells hc)).append (hvs.drop _)
          · unfold splice
            exact glL_append (glL_append (glL_take (hH.gl _ _ _ _ hid).2) (cells_gl hgv hc)) (glL_drop (hH.gl _ _ _ _ hid).2)
          · exact splice_get hcs (by omega) (by omega)
          · intro u hu
            simp only [List.mem_append] at hu
            rcases hu with (hu | hu) | hu
            · exact hones u (List.mem_of_mem_take hu)
            · exact hov u hu
            · exact hones u (List.mem_of_mem_drop hu)
  | _ => exact absurd h (by simp)
theorem heap_nil (hH : Heap c M G hp w) (id : Nat) :
    Ext c G w ⟨G.S, fun i k => if i = id then (if k = c then some none else none) else G.ob i k⟩ w ∧
    Heap (c + 1) M ⟨G.S, fun i k => if i = id then (if k = c then some none else none) else G.ob i k⟩ (updH hp id (some (c, .row true []))) w := by
  have hE : Ext c G w ⟨G.S, fun i k => if i = id then (if k = c then some none else none) else G.ob i k⟩ w := by
    refine ⟨fun _ h => h, fun _ _ => rfl, fun _ _ h => h, fun i k ob hk ho => ?_⟩
    simp only at ho
    split at ho
    · split at ho
      · omega
      · simp at ho
    · exact ho
  refine ⟨hE, hH.lt, ?_, ?_, ?_, ?_⟩
  · intro i k ob ho
    simp only at ho
    unfold updH
    split at ho
    · rename_i e
      rw [if_pos e]
      split at ho
      · rename_i e'; subst e'; exact ⟨_, rfl⟩
      · simp at ho
    · rename_i e
      rw [if_neg e]
      exact hH.live _ _ _ ho
  · intro i k nl cells hi
    unfold updH at hi
    split at hi
    · simp at hi
      obtain ⟨rfl, rfl, rfl⟩ := hi
      exact ⟨by omega, by simp [AV.gl.glL]⟩
    · obtain ⟨a, b⟩ := hH.gl _ _ _ _ hi
      exact ⟨by omega, glL_mono (by omega) _ b⟩
  · intro i k i' k' b hi hi'
    simp only at hi hi'
    split at hi
    · split at hi <;> simp at hi
    · split at hi'
      · split at hi' <;> simp at hi'
      · exact hH.inj _ _ _ _ _ hi hi'
  · intro i k nl cells hi
    unfold updH at hi
    split at hi
    · rename_i e
      simp at hi
      obtain ⟨rfl, rfl, rfl⟩ := hi
      exact ⟨none, by simp [e], by simp, by simp, fun b hb => by simp at hb⟩
    · rename_i e
      obtain ⟨ob, k1, k2, k3, k4⟩ := hH.row _ _ _ _ hi
      refine ⟨ob, by simp [e, k1], k2, k3, fun b hb => ?_⟩
      obtain ⟨q1, q2, vs', q4, q3⟩ := k4 b hb
      exact ⟨q1, q2, vs', RdL.mono hE _ _ (hH.gl _ _ _ _ hi).2 q4, q3⟩
theorem res_nil (hH : Heap c M G hp w) (id : Nat) (es : Option Nat) : Res c M G w (.own id c es 0 0) (updH hp id (some (c, .row true []))) (c + 1) (.slice none 0 0) w := by
  obtain ⟨hE, hH'⟩ := heap_nil hH id
  refine ⟨_, hE, hH', ?_, by simp [AV.gl], by omega, Keep.refl _ _ _, fun _ h => .inl h⟩
  simp only [Rd]
  refine ⟨.inl ⟨by trivial, by trivial, by trivial⟩, fun ob hob => ?_⟩
  simp at hob
  subst hob
  simp
theorem glL_chunks {es : Option Nat} {n : Nat} {zs : List AV} (h : AV.gl.glL c zs) : AV.gl.glL c (chunks es n zs) := by
  cases es with
  | none => simpa [chunks] using glL_take h
  | some s =>
    induction n generalizing zs with
    | zero => simp [chunks, AV.gl.glL]
    | succ n ih =>
      simp only [chunks, AV.gl.glL, AV.gl]
      exact ⟨glL_take h, ih (glL_drop h)⟩
theorem elemsA_sound {es : Option Nat} (hH : Heap c M G hp w) {y : AV} {vy : Value} (hy : Rd G w y vy) (hg : y.gl c) (h : (elemsA es hp y).1) :
    ∃ base cap, ∃ vs : List Value, vy = .slice base vs.length cap ∧ RdL G w (elemsA es hp y).2 vs ∧ AV.gl.glL c (elemsA es hp y).2 ∧ (∀ (i : Nat) (v : Value), vs[i]? = some v → shp es v) ∧
      (base = none → vs = [] ∧ cap = 0) ∧ ∀ a, base = some a → vs ≠ [] → a.spot = none ∧ ∀ (i : Nat) (v : Value), vs[i]? = some v → HoldsAt w a.block (a.off + i * esz es) v.cells.toList := by
  unfold elemsA at *
  split at h
  · rename_i nl es' xs
    simp only at h
    subst h
    simp only [Rd] at hy
    obtain ⟨base, len, cap, vs, rfl, rfl, g2, g3, g4, g5, g6⟩ := hy
    refine ⟨base, cap, vs, rfl, g3, by simpa [AV.gl] using hg, ?_, ?_, ?_⟩
    · intro i v hv
      cases base with
      | none =>
        have := g5 rfl
        have : vs = [] := List.eq_nil_of_length_eq_zero (by omega)
        subst this; simp at hv
      | some a => exact ((g6 a rfl (fun e => by rw [e] at hv; simp at hv)).2.2 i v hv).1
    · intro hb
      have := g5 hb
      exact ⟨List.eq_nil_of_length_eq_zero (by omega), this⟩
    · intro a ha hne
      obtain ⟨k1, _, k3⟩ := g6 a ha hne
      exact ⟨k1, fun i v hv => (k3 i v hv).2⟩
  · rename_i id g es' lo n
    split at h
    · rename_i g' nl cells hid
      obtain ⟨rfl, rfl, hle⟩ := h
      obtain ⟨ob, hob, hnl, hnil, hrow⟩ := hH.rowC _ _ _ _ hid
      simp only [Rd] at hy
      have hy := hy.2 _ hob
      cases ob with
      | none =>
        obtain ⟨rfl, rfl, rfl⟩ := hy
        refine ⟨none, 0, [], rfl, ?_, ?_, by simp, by simp, by simp⟩
        · cases es' <;> simp [chunks, RdL]
        · cases es' <;> simp [chunks, AV.gl.glL]
      | some b =>
        obtain ⟨cap, o, E, k, rfl, q1, q2, q3, q4⟩ := hy
        obtain ⟨_, _, vs, cs, E', hb, hvs, hcs, h1⟩ := hrow b rfl ⟨_, q3⟩
        have hl := hvs.length
        have hle' : n * esz es' ≤ (vs.drop lo).length := by simp; omega
        have hn := length_chunksV es' n (vs.drop lo) hle'
        refine ⟨some ⟨b, o, none⟩, cap, chunksV es' n (vs.drop lo), by rw [hn], (hvs.drop lo).chunks (fun u hu => h1 u (List.mem_of_mem_drop hu)), ?_, ?_, by simp, ?_⟩
        · exact glL_chunks (glL_drop (hH.gl _ _ _ _ hid).2)
        · intro i v hv
          exact (chunksV_get (fun v hv => h1 v (List.mem_of_mem_drop hv)) hle' hv).2.1
        · intro a ha _
          simp at ha
          subst ha
          refine ⟨rfl, fun i v hv j u hu => ?_⟩
          obtain ⟨a1, a2, a3⟩ := chunksV_get (fun v hv => h1 v (List.mem_of_mem_drop hv)) hle' hv
          have e : o = lo := by rcases q2 with q2 | q2 <;> omega
          subst e
          rw [a3, List.getElem?_take] at hu
          split at hu
          · have : vs[o + (i * esz es' + j)]? = some u := by simpa [Nat.add_assoc] using hu
            have := hcs _ _ this
            simp only [World.cell?, hb]
            simpa [Nat.add_assoc] using this
          · simp at hu
    · exact absurd h (by simp)
  · have hy := hy.sc_inv
    subst hy
    exact ⟨none, 0, [], rfl, by simp [RdL], by simp [AV.gl.glL], by simp, by simp, by simp⟩
  · exact absurd h (by simp)
theorem shp_size {es : Option Nat} {v : Value} (h : shp es v) : v.cells.size = esz es ∧ ∀ u ∈ v.cells.toList, u.oneCell' = true := by
  cases es with
  | none =>
    simp only [shp] at h
    have : v.cells = #[v] := by cases v <;> first | rfl | simp [Value.oneCell'] at h
    rw [this]
    exact ⟨rfl, by simpa using h⟩
  | some n =>
    obtain ⟨cs, rfl, hn, h1⟩ := h
    exact ⟨by simpa [Value.cells, esz] using hn, by simpa [Value.cells] using h1⟩
theorem flat_sound {es : Option Nat} : ∀ {ys : List AV} {vs : List Value}, flatOk es ys → RdL G w ys vs → (∀ (i : Nat) (v : Value), vs[i]? = some v → shp es v) → AV.gl.glL c ys →
    RdL G w (flat es ys) (vs.flatMap fun u => u.cells.toList) ∧ AV.gl.glL c (flat es ys) ∧ (∀ u ∈ vs.flatMap fun u => u.cells.toList, u.oneCell' = true) ∧ (vs.flatMap fun u => u.cells.toList).length = vs.length * esz es
  | [], vs, _, hr, _, _ => by
    simp only [RdL] at hr; subst hr
    cases es <;> simp [flat, RdL, AV.gl.glL]
  | y :: ys, vs, hf, hr, hs, hg => by
    simp only [RdL] at hr
    obtain ⟨v, r, rfl, h1, h2⟩ := hr
    simp only [AV.gl.glL] at hg
    have hv := hs 0 v (by simp)
    obtain ⟨k1, k2⟩ := shp_size hv
    have ih := flat_sound (es := es) (ys := ys) (vs := r) (by cases es with
      | none => trivial
      | some n => exact fun y hy => hf y (by simp [hy])) h2 (fun i u hu => hs (i + 1) u (by simpa using hu)) hg.2
    obtain ⟨i1, i2, i3, i4⟩ := ih
    have hcy : ∃ zs, (flat es (y :: ys) = zs ++ flat es ys) ∧ RdL G w zs v.cells.toList ∧ AV.gl.glL c zs := by
      cases es with
      | none =>
        refine ⟨[y], rfl, ?_, by simp [AV.gl.glL, hg.1]⟩
        simp only [shp] at hv
        have : v.cells = #[v] := by cases v <;> first | rfl | simp [Value.oneCell'] at hv
        rw [this]
        simp only [RdL]
        exact ⟨v, [], rfl, h1, rfl⟩
      | some n =>
        obtain ⟨zs, rfl⟩ := hf y (by simp)
        refine ⟨zs, by simp [flat, cellsA], h1.cells rfl, cells_gl hg.1 rfl⟩
    obtain ⟨zs, e, z1, z2⟩ := hcy
    rw [e]
    simp only [List.flatMap_cons]
    refine ⟨z1.append i1, glL_append z2 i2, ?_, ?_⟩
    · intro u hu
      rcases List.mem_append.1 hu with hu | hu
      · exact k2 u hu
      · exact i3 u hu
    · rw [List.length_append, i4, Array.length_toList, k1, List.length_cons, Nat.add_mul]; omega
theorem holds_flat {es : Option Nat} {a : Addr} {vs : List Value} (hsp : a.spot = none) (hs : ∀ (i : Nat) (v : Value), vs[i]? = some v → shp es v) (hes : 0 < esz es)
    (hh : ∀ (i : Nat) (v : Value), vs[i]? = some v → HoldsAt w a.block (a.off + i * esz es) v.cells.toList) :
    ∀ (j : Nat) (u : Value), (vs.flatMap fun u => u.cells.toList)[j]? = some u → w.cell? (a.add j) = some u := by
  have key : ∀ (vs : List Value) (o : Nat), (∀ (i : Nat) (v : Value), vs[i]? = some v → shp es v) → (∀ (i : Nat) (v : Value), vs[i]? = some v → HoldsAt w a.block (o + i * esz es) v.cells.toList) →
      ∀ (j : Nat) (u : Value), (vs.flatMap fun u => u.cells.toList)[j]? = some u → w.cell? ⟨a.block, o + j, none⟩ = some u := by
    intro vs
    induction vs with
    | nil => intro o _ _ j u hu; simp at hu
    | cons v vs ih =>
      intro o hs hh j u hu
      simp only [List.flatMap_cons] at hu
      have hv := (shp_size (hs 0 v (by simp))).1
      have hl : v.cells.toList.length = esz es := by rw [Array.length_toList, hv]
      by_cases hj : j < esz es
      · rw [List.getElem?_append_left (by omega)] at hu
        simpa using hh 0 v (by simp) j u hu
      · rw [List.getElem?_append_right (by omega), hl] at hu
        have := ih (o + esz es) (fun i x hx => hs (i + 1) x (by simpa using hx)) (fun i x hx => by
          have := hh (i + 1) x (by simpa using hx)
          rw [show o + esz es + i * esz es = o + (i + 1) * esz es from by rw [Nat.add_mul]; omega]
          exact this) _ u hu
        rw [show o + esz es + (j - esz es) = o + j from by omega] at this
        exact this
  intro j u hu
  rw [← spot_mk hsp, add_mk]
  exact key vs a.off hs hh j u hu
theorem run_append_room' (t ty e E : TypeId) (i : TypeInfo) (ht : P.underlying t = some (.slice e)) (hi : P.info? e = some i)
    (g sLen sCap : Nat) (cur : Array Value) (hg : w.heap[g]? = some (.cells cur E (0, 0)))
    (a : Addr) (m k : Nat) (news : List Value) (hl : news.length = m * i.size) (hnews : ∀ (j : Nat) (u : Value), news[j]? = some u → w.cell? (a.add j) = some u) (h1 : ∀ u ∈ news, u.oneCell' = true)
    (hroom : sLen + m ≤ sCap) (hfit : sLen * i.size + news.length ≤ cur.size) :
    (Builtin.append_ #[t, t] ty #[.slice (some ⟨g, 0, none⟩) sLen sCap, .slice (some a) m k]).run P w =
      .ok (.slice (some ⟨g, 0, none⟩) (sLen + m) sCap) (w.setRow g (cur.toList.take (sLen * i.size) ++ news ++ cur.toList.drop (sLen * i.size + news.length)).toArray) := by
  have hf := run_firstCells_some (P := P) w i.size m a m k news hl hnews
  have hst := run_storeCells_at P g (sLen * i.size) E news 0 cur w hg (by simpa using hfit) h1
  simp only [Nat.add_zero] at hst
  simp [Builtin.append_, run_underlying ht, sizeOf, typeInfo, hi, Builtin.lenOf, hroom, hf, add_mk, hst]
theorem run_append_same (t ty e : TypeId) (i : TypeInfo) (ht : P.underlying t = some (.slice e)) (hi : P.info? e = some i) (b : Option Addr) (n k : Nat) (hn : n ≤ k) (b' : Option Addr) (k' : Nat) :
    (Builtin.append_ #[t, t] ty #[.slice b n k, .slice b' 0 k']).run P w = .ok (.slice b n k) w := by
  cases b <;> cases b' <;> simp [Builtin.append_, run_underlying ht, sizeOf, typeInfo, hi, Builtin.lenOf, Builtin.firstCells, hn, storeCells, loadCells, loadCellsFrom]
theorem aApp_new {e : TypeId} {es : Option Nat} {i : TypeInfo} (hes : i.size = esz es) (hH : Heap c M G hp w) (hM : ∀ b, w.heap.size ≤ b → M b) (d : Nat) {n m cap : Nat} {xs ys : List AV} {olds news : List Value} {zs : Array Value}
    (hzs : n + m ≤ cap) (hz : zs.size = (cap - (n + m)) * i.size) (hxs : RdL G w xs olds) (hys : RdL G w ys news) (hgx : AV.gl.glL c xs) (hgy : AV.gl.glL c ys) (hlo : olds.length = n * i.size) (hln : news.length = m * i.size)
    (h1 : ∀ u ∈ olds, u.oneCell' = true) (h2 : ∀ u ∈ news, u.oneCell' = true) :
    Res c M G w (.own d c es 0 (n + m)) (updH hp d (some (c, .row false (xs ++ ys)))) (c + 1) (.slice (some ⟨w.heap.size, 0, none⟩) (n + m) cap) (w.drew.alloc (.cells (olds.toArray ++ news.toArray ++ zs) e)) := by
  have hk : Keep w.heap.size (fun _ => False) w (w.drew.alloc (.cells (olds.toArray ++ news.toArray ++ zs) e)) :=
    ⟨rfl, rfl, rfl, (alloc_keep w.drew _).size, (alloc_keep w.drew _).block⟩
  have hnew : (w.drew.alloc (.cells (olds.toArray ++ news.toArray ++ zs) e)).heap[w.heap.size]? = some (.cells (olds.toArray ++ news.toArray ++ zs) e (0, 0)) := alloc_get w.drew _
  refine res_alloc hH hM hk (by have := alloc_size w.drew (.cells (olds.toArray ++ news.toArray ++ zs) e); have e2 : w.drew.heap.size = w.heap.size := rfl; omega) d hnew (hxs.append hys) (glL_append hgx hgy) ?_ ?_ (rd_own_put (E := e) (k := (olds.toArray ++ news.toArray ++ zs).size) hzs ?_ ?_) (by simp [AV.gl])
  · intro j v hv
    have hlt : j < (olds ++ news).length := by
      rcases Nat.lt_or_ge j (olds ++ news).length with h' | h'
      · exact h'
      · rw [List.getElem?_eq_none h'] at hv; simp at hv
    have : (olds.toArray ++ news.toArray ++ zs)[j]? = (olds ++ news)[j]? := by
      rw [Array.getElem?_append_left (by simpa using hlt)]
      simp
    rw [this, hv]
  · intro u hu
    rcases List.mem_append.1 hu with hu | hu
    · exact h1 u hu
    · exact h2 u hu
  · simp only [World.shape?, hnew]
  · simp only [Array.size_append, List.size_toArray, hlo, hln, hz]
    rw [← hes, ← Nat.add_mul, ← Nat.add_mul]
    exact Nat.le_of_eq (by congr 1; omega)
theorem flat_nil (es : Option Nat) : flat es [] = [] := by cases es <;> rfl
theorem aApp_nil {T E ty : TypeId} {es : Option Nat} {i : TypeInfo} {zv : Value} (hT : P.underlying T = some (.slice E)) (hi : P.info? E = some i) (hz : i.zero = some zv) (hzs : zv.cells.size = i.size) (hes : i.size = esz es) (h0 : 0 < i.size)
    (hH : Heap c M G hp w) (hM : ∀ b, w.heap.size ≤ b → M b) (d : Nat) {y : AV} {vy : Value} (hy : Rd G w y vy) (hg : y.gl c) (he : (elemsA es hp y).1) (hf : flatOk es (elemsA es hp y).2)
    (hb : (elemsA es hp y).2.length * i.bytes ≤ 70368744177664) (hb' : (elemsA es hp y).2.length ≤ 70368744177664) :
    ∃ v w', (Builtin.append_ #[T, T] ty #[.slice none 0 0, vy]).run P w = .ok v w' ∧
      Res c M G w (.own d c es 0 (elemsA es hp y).2.length) (updH hp d (some (c, .row (elemsA es hp y).2.isEmpty (flat es (elemsA es hp y).2)))) (c + 1) v w' := by
  obtain ⟨base, cap, vs, rfl, g1, g2, g3, g4, g5⟩ := elemsA_sound hH hy hg he
  generalize (elemsA es hp y).2 = ys at *
  have hl := g1.length
  cases ys with
  | nil =>
    have : vs = [] := List.eq_nil_of_length_eq_zero (by simpa using hl)
    subst this
    refine ⟨_, _, run_append_same T ty E i hT hi none 0 0 (Nat.le_refl _) base cap, ?_⟩
    rw [flat_nil]
    exact res_nil hH d es
  | cons y0 ys =>
    obtain ⟨f1, f2, f3, f4⟩ := flat_sound hf g1 g3 g2
    have hpos : 0 < vs.length := by rw [hl]; simp
    cases base with
    | none => have := (g4 rfl).1; subst this; simp at hpos
    | some a =>
      obtain ⟨k1, k2⟩ := g5 a rfl (fun e => by rw [e] at hpos; simp at hpos)
      have hcell := holds_flat k1 g3 (by omega) k2
      have hrun := run_append_nil (P := P) w T ty E i zv hT hi hz a vs.length cap (vs.flatMap fun u => u.cells.toList) (by rw [f4, hes]) hcell hpos (by omega) (by rw [hl]; omega)
      refine ⟨_, _, hrun, ?_⟩
      have hge := grownCap_ge w vs.length 0 E
      have := aApp_new (e := E) (es := es) (i := i) hes hH hM d (n := 0) (m := vs.length) (cap := grownCap w vs.length 0 E) (xs := []) (olds := []) (zs := Builtin.zeroCells zv.cells (grownCap w vs.length 0 E - vs.length)) (by omega) (by rw [size_zeroCells, hzs]; congr 1; omega) (by simp [RdL]) f1 (by simp [AV.gl.glL]) f2 (by simp) (by rw [f4, hes]) (by simp) f3
      rw [← hl]
      simpa using this
theorem aApp_sound {T E ty : TypeId} {es : Option Nat} {i : TypeInfo} {zv : Value} (hT : P.underlying T = some (.slice E)) (hi : P.info? E = some i) (hz : i.zero = some zv) (hzs : zv.cells.size = i.size) (hes : i.size = esz es) (h0 : 0 < i.size)
    (hH : Heap c M G hp w) (hM : ∀ b, w.heap.size ≤ b → M b) (d : Nat) {x y : AV} {vx vy : Value} (hx : Rd G w x vx) (hgx : x.gl c) (hy : Rd G w y vy) (hg : y.gl c) (h : (aApp es i.bytes x y hp c d).1) :
    ∃ v w', (Builtin.append_ #[T, T] ty #[vx, vy]).run P w = .ok v w' ∧ Res c M G w (aApp es i.bytes x y hp c d).2.1 (aApp es i.bytes x y hp c d).2.2.1 (aApp es i.bytes x y hp c d).2.2.2 v w' := by
  unfold aApp at *
  split at h
  · rename_i id g es' lo n
    split at h
    · rename_i g' nl cells hid
      obtain ⟨he, hf, rfl, rfl, rfl, hn, hb, hb'⟩ := h
      obtain ⟨ob, hob, hnl, hnil, hrow⟩ := hH.rowC _ _ _ _ hid
      have hgc := (hH.gl _ _ _ _ hid).2
      simp only [Rd] at hx
      have hx := hx.2 _ hob
      cases ob with
      | none =>
        obtain ⟨rfl, rfl, _⟩ := hx
        have hc := hnil rfl
        have hnl' : nl = true := hnl.2 rfl
        subst hc; subst hnl'
        have := aApp_nil (ty := ty) hT hi hz hzs hes h0 hH hM id hy hg he hf (by simpa using hb) (by simpa using hb')
        simpa using this
      | some b =>
        obtain ⟨cap, o, E0, k0, rfl, q1, q2, q3, q4⟩ := hx
        obtain ⟨_, hMb, vs0, cs, E', hbk, hvs, hcs, h1⟩ := hrow b rfl ⟨_, q3⟩
        have hnl' : nl = false := by cases nl <;> simp_all
        subst hnl'
        obtain ⟨base, kap, vs, rfl, g1, g2, g3, g4, g5⟩ := elemsA_sound hH hy hg he
        generalize (elemsA es' hp y).2 = ys at *
        have hl := g1.length
        have hl0 := hvs.length
        simp only [Bool.false_and]
        obtain ⟨f1, f2, f3, f4⟩ := flat_sound hf g1 g3 g2
        have hshape : k0 = cs.size := by
          simp only [World.shape?, hbk] at q3
          cases q3; rfl
        subst hshape
        by_cases hroom : n + vs.length ≤ cap
        · -- it fits, or nothing is put on
          by_cases hm : vs = []
          · subst hm
            have hys : ys = [] := List.eq_nil_of_length_eq_zero (by rw [← hl]; rfl)
            subst hys
            rw [flat_nil, List.append_nil]
            refine ⟨_, _, run_append_same T ty E i hT hi _ n cap q1 base kap, ?_⟩
            have hself := CopyRow_self w b cs E' hbk
            have hres := res_row (c := c) (M := M) (G := G) (hp := hp) hH (id := id) (g := g') (g' := c) (c' := c + 1) hob (cs' := cs) hbk rfl hMb (.inl ⟨rfl, rfl⟩) hvs hgc hcs h1 (r := .own id c es' 0 n) (x := .slice (some ⟨b, o, none⟩) n cap) (by
              simp only [Rd]
              refine ⟨.inr ⟨b, cap, o, rfl, q1, q2⟩, fun ob' hob' => ?_⟩
              rw [putG_at] at hob'; cases hob'
              rw [hself]
              exact ⟨cap, o, E0, cs.size, rfl, q1, q2, q3, q4⟩) (by simp [AV.gl])
            rw [hself] at hres
            exact hres
          · have hpos : 0 < vs.length := by
              cases vs with
              | nil => exact absurd rfl hm
              | cons _ _ => simp
            have ho : o = 0 := by rcases q2 with q2 | q2 <;> omega
            subst ho
            cases base with
            | none => exact absurd (g4 rfl).1 hm
            | some a =>
              obtain ⟨k1, k2⟩ := g5 a rfl hm
              have hcell := holds_flat k1 g3 (by omega) k2
              have hmul : n * i.size + vs.length * i.size ≤ cap * i.size := by rw [← Nat.add_mul]; exact Nat.mul_le_mul_right _ hroom
              have hfit : n * i.size + (vs.flatMap fun u => u.cells.toList).length ≤ cs.size := by
                rw [f4, ← hes]
                rw [← hes] at q4
                omega
              have hrun := run_append_room' (P := P) (w := w) T ty E E' i hT hi b n cap cs hbk a vs.length kap (vs.flatMap fun u => u.cells.toList) (by rw [f4, hes]) hcell f3 hroom hfit
              refine ⟨_, _, hrun, ?_⟩
              rw [← hl]
              have hvl : vs0.length = n * i.size := by rw [hl0, ← hn, hes]
              refine res_row hH (id := id) (g := g') (g' := c) (c' := c + 1) hob hbk ?_ hMb (.inl ⟨rfl, rfl⟩) (vs := vs0 ++ vs.flatMap fun u => u.cells.toList) (hvs.append f1) (glL_append hgc f2) ?_ ?_ ?_ (by simp [AV.gl])
              · simp only [List.size_toArray, List.length_append, List.length_take, List.length_drop, Array.length_toList]
                omega
              · intro j u hu
                have := splice_get (o := n * i.size) (us := vs.flatMap fun u => u.cells.toList) hcs (by omega) hfit j u
                rw [← hvl, List.take_length, List.drop_of_length_le (by omega), List.append_nil] at this
                rw [hvl] at this
                exact this hu
              · intro u hu
                rcases List.mem_append.1 hu with hu | hu
                · exact h1 u hu
                · exact f3 u hu
              · refine rd_own_put (E := E') (k := cs.size) hroom ?_ (by rw [Nat.zero_add] at q4; exact q4)
                simp only [World.shape?, setRow_get _ _ _ _ _ _ hbk]
                simp only [List.size_toArray, List.length_append, List.length_take, List.length_drop, Array.length_toList]
                congr 2
                omega
        · cases base with
          | none =>
            have := (g4 rfl).1
            subst this
            simp at hroom
            omega
          | some a =>
            obtain ⟨k1, k2⟩ := g5 a rfl (fun e => by rw [e] at hroom; simp at hroom; omega)
            have hcell := holds_flat k1 g3 (by omega) k2
            have hvl : vs0.length = n * i.size := by rw [hl0, ← hn, hes]
            have hold : ∀ (j : Nat) (v : Value), vs0[j]? = some v → w.cell? ((⟨b, o, none⟩ : Addr).add j) = some v := by
              intro j v hv
              have hlt : j < vs0.length := by
                rcases Nat.lt_or_ge j vs0.length with h' | h'
                · exact h'
                · rw [List.getElem?_eq_none h'] at hv; simp at hv
              have ho : o = 0 := by
                rcases q2 with q2 | q2
                · exact q2
                · have hn0 : n = 0 := by omega
                  rw [hvl, hn0] at hlt
                  simp at hlt
              subst ho
              rw [add_mk]
              simp only [World.cell?, hbk]
              simpa using hcs j v hv
            have hbb : (n + vs.length) * i.bytes ≤ 140737488355328 := by rw [hl]; omega
            have hrun := run_append_grow (P := P) w T ty E i zv hT hi hz ⟨b, o, none⟩ n cap vs0 hvl hold a vs.length kap (vs.flatMap fun u => u.cells.toList) (by rw [f4, hes]) hcell (by omega) (by omega) (growslice_fits (by omega) hbb)
            refine ⟨_, _, hrun, ?_⟩
            have hge := grownCap_ge w (n + vs.length) cap E
            have := aApp_new (e := E) (es := es') (i := i) hes hH hM id (n := n) (m := vs.length) (cap := grownCap w (n + vs.length) cap E) (zs := Builtin.zeroCells zv.cells (grownCap w (n + vs.length) cap E - (n + vs.length))) hge (by rw [size_zeroCells, hzs]) hvs f1 hgc f2 hvl (by rw [f4, hes]) h1 f3
            rw [← hl]
            exact this
    · exact absurd h (by simp)
  · obtain ⟨he, hf, rfl, hb, hb'⟩ := h
    simp only [Rd] at hx
    obtain ⟨base, len, kap, vs, rfl, rfl, _, hr, hbn, hbc, _⟩ := hx
    have hbn := hbn.1 (by trivial)
    subst hbn
    have := hbc rfl
    subst this
    have : vs = [] := List.eq_nil_of_length_eq_zero (by rw [hr.length]; rfl)
    subst this
    exact aApp_nil hT hi hz hzs hes h0 hH hM d hy hg he hf hb hb'
  · obtain ⟨he, hf, hb, hb'⟩ := h
    have hx := hx.sc_inv
    subst hx
    exact aApp_nil hT hi hz hzs hes h0 hH hM d hy hg he hf hb hb'
  · exact absurd h (by simp)
theorem aCapn_sound {T E ty : TypeId} (hT : P.underlying T = some (.slice E)) {x : AV} {vx : Value} (h : (aCapn x).1) (hx : Rd G w x vx) : ∃ v, (Builtin.cap_ #[T] ty #[vx]).run P w = .ok v w ∧ Rd G w (aCapn x).2 v ∧ (aCapn x).2.gl c := by
  have key : vx = .slice none 0 0 → ∃ v, (Builtin.cap_ #[T] ty #[vx]).run P w = .ok v w ∧ Rd G w (.sc (.int .i64 0)) v ∧ (AV.sc (.int .i64 0)).gl c := by
    rintro rfl
    exact ⟨.int .i64 0, by simp [Builtin.cap_, run_underlying hT, goInt], by simp [Rd], by simp [AV.gl]⟩
  unfold aCapn at *
  split at h
  · simp only [Rd] at hx
    obtain ⟨base, len, kap, vs, rfl, rfl, _, hr, hbn, hbc, _⟩ := hx
    have hbn := hbn.1 (by trivial)
    subst hbn
    have := hbc rfl
    subst this
    have : vs = [] := List.eq_nil_of_length_eq_zero (by rw [hr.length]; rfl)
    subst this
    exact key rfl
  · exact key hx.sc_inv
  · simp [stuckR] at h
theorem wrap_i64_small {n : Nat} (h : n ≤ 70368744177664) : IntKind.i64.wrap (n : Int) = n := by
  simp only [IntKind.wrap, IntKind.bits, IntKind.signed]
  simp
  omega
theorem run_appz_same (t u ty e : TypeId) (i : TypeInfo) {ku kn : IntKind} (ht : P.underlying t = some (.slice e)) (hu : P.underlying u = some (.int ku)) (hi : P.info? e = some i) (b : Option Addr) (n k : Nat) (hn : n ≤ k) :
    (Builtin.append_ #[t, u] ty #[.slice b n k, .int kn 0]).run P w = .ok (.slice b n k) w := by
  have hw : IntKind.i64.wrap 0 = 0 := rfl
  cases b <;> simp [Builtin.append_, run_underlying ht, run_underlying hu, sizeOf, typeInfo, hi, asInt, asIntOf, hw, hn, storeCells]
theorem run_appz_nil (t u ty e : TypeId) (i : TypeInfo) (z : Value) {ku kn : IntKind} (ht : P.underlying t = some (.slice e)) (hu : P.underlying u = some (.int ku)) (hi : P.info? e = some i) (hz : i.zero = some z) (hs0 : 0 < i.size)
    (n : Nat) (h0 : 0 < n) (h63 : n ≤ 70368744177664) (h48 : n * i.bytes ≤ 70368744177664) :
    (Builtin.append_ #[t, u] ty #[.slice none 0 0, .int kn n]).run P w =
      .ok (.slice (some ⟨w.heap.size, 0, none⟩) n (grownCap w n 0 e)) (w.drew.alloc (.cells (Builtin.zeroCells z.cells n ++ Builtin.zeroCells z.cells (grownCap w n 0 e - n)) e)) := by
  have hn : n ≠ 0 := by omega
  have h63' : ¬ (9223372036854775807 < (n : Int)) := by omega
  have h48' : ¬ (281474976710656 < Builtin.nextslicecap n 0 * i.bytes) := by rw [nextslicecap_zero h0]; omega
  have h48'' : ¬ (281474976710656 < (n : Int) * (i.bytes : Int)) := by rw [← Int.natCast_mul]; omega
  have hw := wrap_i64_small h63
  have hn0 : ¬ ((n : Int) < 0) := by omega
  have hs1 : ¬ (n * i.size = 0) := by have := Nat.mul_pos h0 hs0; omega
  simp [Builtin.append_, run_underlying ht, run_underlying hu, sizeOf, typeInfo, zeroValue, hi, hz, asInt, asIntOf, hw, hn0, hn, hs1, h63', h48', h48'', Question.forced, run_firstCells_none, newRow, grownCap]
theorem run_appz_grow (t u ty e : TypeId) (i : TypeInfo) (z : Value) {ku kn : IntKind} (ht : P.underlying t = some (.slice e)) (hu : P.underlying u = some (.int ku)) (hi : P.info? e = some i) (hz : i.zero = some z) (hs0 : 0 < i.size)
    (b : Addr) (sLen sCap : Nat) (olds : List Value) (hlo : olds.length = sLen * i.size) (holds : ∀ j v, olds[j]? = some v → w.cell? (b.add j) = some v)
    (n : Nat) (hg : sCap < sLen + n) (h0 : 0 < n) (h63 : sLen + n ≤ 70368744177664) (h48 : n * i.bytes ≤ 70368744177664) (hfit : Builtin.nextslicecap (sLen + n) sCap * i.bytes ≤ 281474976710656) :
    (Builtin.append_ #[t, u] ty #[.slice (some b) sLen sCap, .int kn n]).run P w =
      .ok (.slice (some ⟨w.heap.size, 0, none⟩) (sLen + n) (grownCap w (sLen + n) sCap e))
        (w.drew.alloc (.cells (olds.toArray ++ Builtin.zeroCells z.cells n ++ Builtin.zeroCells z.cells (grownCap w (sLen + n) sCap e - (sLen + n))) e)) := by
  have hn : n ≠ 0 := by omega
  have hg' : ¬ (sLen + n ≤ sCap) := by omega
  have h63' : ¬ (9223372036854775807 < (sLen : Int) + (n : Int)) := by omega
  have h48' : ¬ (281474976710656 < Builtin.nextslicecap (sLen + n) sCap * i.bytes) := by omega
  have h48'' : ¬ (281474976710656 < (n : Int) * (i.bytes : Int)) := by rw [← Int.natCast_mul]; omega
  have hw := wrap_i64_small (n := n) (by omega)
  have hn0 : ¬ ((n : Int) < 0) := by omega
  have hs1 : ¬ (n * i.size = 0) := by have := Nat.mul_pos h0 hs0; omega
  have hfo := run_firstCells_some (P := P) w.drew i.size sLen b sLen sCap olds hlo (by simpa using holds)
  simp [Builtin.append_, run_underlying ht, run_underlying hu, sizeOf, typeInfo, zeroValue, hi, hz, asInt, asIntOf, hw, hn0, hn, hs1, hg', h63', h48', h48'', Question.forced, hfo, newRow, grownCap]
theorem run_appz_room (t u ty e E : TypeId) (i : TypeInfo) (z : Value) {ku kn : IntKind} (ht : P.underlying t = some (.slice e)) (hu : P.underlying u = some (.int ku)) (hi : P.info? e = some i) (hz : i.zero = some z) (hs0 : 0 < i.size) (hzs : z.cells.size = i.size)
    (g sLen sCap : Nat) (cur : Array Value) (hg : w.heap[g]? = some (.cells cur E (0, 0))) (n : Nat) (h0 : 0 < n) (h63 : n ≤ 70368744177664) (h48 : n * i.bytes ≤ 70368744177664)
    (h1 : ∀ u ∈ (Builtin.zeroCells z.cells n).toList, u.oneCell' = true) (hroom : sLen + n ≤ sCap) (hfit : sLen * i.size + n * i.size ≤ cur.size) :
    (Builtin.append_ #[t, u] ty #[.slice (some ⟨g, 0, none⟩) sLen sCap, .int kn n]).run P w =
      .ok (.slice (some ⟨g, 0, none⟩) (sLen + n) sCap) (w.setRow g (cur.toList.take (sLen * i.size) ++ (Builtin.zeroCells z.cells n).toList ++ cur.toList.drop (sLen * i.size + n * i.size)).toArray) := by
  have hn : n ≠ 0 := by omega
  have h48'' : ¬ (281474976710656 < (n : Int) * (i.bytes : Int)) := by rw [← Int.natCast_mul]; omega
  have hw := wrap_i64_small h63
  have hn0 : ¬ ((n : Int) < 0) := by omega
  have hs1 : ¬ (n * i.size = 0) := by have := Nat.mul_pos h0 hs0; omega
  have hzl : (Builtin.zeroCells z.cells n).toList.length = n * i.size := by rw [Array.length_toList, size_zeroCells, hzs]
  have hst := run_storeCells_at P g (sLen * i.size) E (Builtin.zeroCells z.cells n).toList 0 cur w hg (by rw [hzl]; simpa using hfit) h1
  simp only [Nat.add_zero, hzl] at hst
  simp [Builtin.append_, run_underlying ht, run_underlying hu, sizeOf, typeInfo, zeroValue, hi, hz, asInt, asIntOf, hw, hn0, hn, hs1, h48'', hroom, add_mk, hst]
theorem zeroCells_list {z : Array Value} (n : Nat) (h0 : 0 < z.size) : (Builtin.zeroCells z n).toList = (List.replicate n z.toList).flatten := by
  apply List.ext_getElem?
  intro j
  have hlen : ((List.replicate n z.toList).flatten).length = n * z.size := by simp [List.length_flatten]
  by_cases hj : j < n * z.size
  · have h1 : ∃ v, ((List.replicate n z.toList).flatten)[j]? = some v := ⟨_, List.getElem?_eq_getElem (by omega)⟩
    obtain ⟨v, hv⟩ := h1
    obtain ⟨_, b⟩ := flatten_replicate_getElem? _ _ _ _ hv
    rw [hv]
    rw [Array.length_toList] at b
    have hv' : z[j % z.size]? = some v := by simpa using b
    have hv'' : z[j % z.size]! = v := by rw [getElem!_def, hv']
    simp [Builtin.zeroCells, hj, hv'']
  · rw [List.getElem?_eq_none (by rw [Array.length_toList, size_zeroCells]; omega), List.getElem?_eq_none (by omega)]
theorem aAppz_sound {T U E ty : TypeId} {es : Option Nat} {i : TypeInfo} {zv : Value} {ku : IntKind} (hT : P.underlying T = some (.slice E)) (hU : P.underlying U = some (.int ku)) (hi : P.info? E = some i) (hz : i.zero = some zv) (hzs : zv.cells.size = i.size) (hes : i.size = esz es) (h0 : 0 < i.size)
    (hone : ∀ u ∈ zv.cells.toList, u.oneCell' = true)
    (hH : Heap c M G hp w) (hM : ∀ b, w.heap.size ≤ b → M b) (d : Nat) {x y : AV} {vx vy : Value} (hx : Rd G w x vx) (hgx : x.gl c) (hy : Rd G w y vy) (h : (aAppz es i.bytes zv.cells.toList x y hp c d).1) :
    ∃ v w', (Builtin.append_ #[T, U] ty #[vx, vy]).run P w = .ok v w' ∧ Res c M G w (aAppz es i.bytes zv.cells.toList x y hp c d).2.1 (aAppz es i.bytes zv.cells.toList x y hp c d).2.2.1 (aAppz es i.bytes zv.cells.toList x y hp c d).2.2.2 v w' := by
  have hflat : ∀ n : Nat, (List.replicate n (zv.cells.toList.map AV.sc)).flatten = (Builtin.zeroCells zv.cells n).toList.map AV.sc := fun n => by
    rw [zeroCells_list n (by omega)]
    simp [List.map_flatten]
  have hzone : ∀ n : Nat, ∀ u ∈ (Builtin.zeroCells zv.cells n).toList, u.oneCell' = true := fun n u hu => by
    rw [zeroCells_list n (by omega)] at hu
    simp only [List.mem_flatten, List.mem_replicate] at hu
    obtain ⟨z', ⟨_, rfl⟩, hu⟩ := hu
    exact hone u hu
  have hzl : ∀ n : Nat, (Builtin.zeroCells zv.cells n).toList.length = n * i.size := fun n => by rw [Array.length_toList, size_zeroCells, hzs]
  have hnil : ∀ (kk : IntKind) (n : Nat) (id : Nat), n * i.bytes ≤ 70368744177664 → n ≤ 70368744177664 → ∃ v w', (Builtin.append_ #[T, U] ty #[.slice none 0 0, .int kk n]).run P w = .ok v w' ∧
      Res c M G w (.own id c es 0 n) (updH hp id (some (c, .row (n == 0) ((List.replicate n (zv.cells.toList.map AV.sc)).flatten)))) (c + 1) v w' := by
    intro kk n id hb hb'
    by_cases hn : n = 0
    · subst hn
      refine ⟨_, _, run_appz_same T U ty E i hT hU hi none 0 0 (Nat.le_refl _), ?_⟩
      simpa using res_nil hH id es
    · refine ⟨_, _, run_appz_nil T U ty E i zv hT hU hi hz h0 n (by omega) hb' hb, ?_⟩
      have hge := grownCap_ge w n 0 E
      have := aApp_new (e := E) (es := es) (i := i) hes hH hM id (n := 0) (m := n) (cap := grownCap w n 0 E) (xs := []) (olds := []) (news := (Builtin.zeroCells zv.cells n).toList) (zs := Builtin.zeroCells zv.cells (grownCap w n 0 E - n)) (by omega) (by rw [size_zeroCells, hzs]; congr 1; omega) (by simp [RdL]) (rdL_sc _) (by simp [AV.gl.glL]) (glL_sc _) (by simp) (hzl n) (by simp) (hzone n)
      rw [hflat]
      have e : (n == 0) = false := by simpa using hn
      rw [e]
      simpa using this
  unfold aAppz at *
  split at h
  · rename_i kk k
    have hyv := hy.sc_inv
    subst hyv
    split at h
    · rename_i id g es' lo m
      split at h
      · rename_i g' nl cells hid
        obtain ⟨hk, rfl, rfl, rfl, hn, hb, hb', _⟩ := h
        obtain ⟨n, rfl⟩ := Int.eq_ofNat_of_zero_le hk
        simp only [Int.ofNat_eq_natCast, Int.toNat_natCast] at *
        obtain ⟨ob, hob, hnl, hnil', hrow⟩ := hH.rowC _ _ _ _ hid
        have hgc := (hH.gl _ _ _ _ hid).2
        simp only [Rd] at hx
        have hx := hx.2 _ hob
        cases ob with
        | none =>
          obtain ⟨rfl, rfl, _⟩ := hx
          have hc := hnil' rfl
          have hnl' : nl = true := hnl.2 rfl
          subst hc; subst hnl'
          have := hnil kk n id (by simpa using hb) (by simpa using hb')
          simpa using this
        | some b =>
          obtain ⟨cap, o, E0, k0, rfl, q1, q2, q3, q4⟩ := hx
          obtain ⟨_, hMb, vs0, cs, E', hbk, hvs, hcs, h1⟩ := hrow b rfl ⟨_, q3⟩
          have hnl' : nl = false := by cases nl <;> simp_all
          subst hnl'
          have hl0 := hvs.length
          simp only [Bool.false_and]
          have hshape : k0 = cs.size := by
            simp only [World.shape?, hbk] at q3
            cases q3; rfl
          subst hshape
          have hvl : vs0.length = m * i.size := by rw [hl0, ← hn, hes]
          by_cases hn0 : n = 0
          · subst hn0
            refine ⟨_, _, run_appz_same T U ty E i hT hU hi _ m cap q1, ?_⟩
            have hself := CopyRow_self w b cs E' hbk
            have hres := res_row (c := c) (M := M) (G := G) (hp := hp) hH (id := id) (g := g') (g' := c) (c' := c + 1) hob (cs' := cs) hbk rfl hMb (.inl ⟨rfl, rfl⟩) hvs hgc hcs h1 (r := .own id c es' 0 m) (x := .slice (some ⟨b, o, none⟩) m cap) (by
              simp only [Rd]
              refine ⟨.inr ⟨b, cap, o, rfl, q1, q2⟩, fun ob' hob' => ?_⟩
              rw [putG_at] at hob'; cases hob'
              rw [hself]
              exact ⟨cap, o, E0, cs.size, rfl, q1, q2, q3, q4⟩) (by simp [AV.gl])
            rw [hself] at hres
            simpa using hres
          · by_cases hroom : m + n ≤ cap
            · have ho : o = 0 := by rcases q2 with q2 | q2 <;> omega
              subst ho
              have hmul : m * i.size + n * i.size ≤ cap * i.size := by rw [← Nat.add_mul]; exact Nat.mul_le_mul_right _ hroom
              have hfit : m * i.size + n * i.size ≤ cs.size := by
                rw [← hes] at q4
                omega
              have hrun := run_appz_room (P := P) (w := w) T U ty E E' i zv (kn := kk) hT hU hi hz h0 hzs b m cap cs hbk n (Nat.pos_of_ne_zero hn0) (Nat.le_trans (Nat.le_add_left n m) hb') (Nat.le_trans (Nat.mul_le_mul_right _ (Nat.le_add_left n m)) hb) (hzone n) hroom hfit
              refine ⟨_, _, hrun, ?_⟩
              rw [hflat]
              have hsg := splice_get (o := m * i.size) (us := (Builtin.zeroCells zv.cells n).toList) hcs (by omega) (by rw [hzl]; exact hfit)
              rw [hzl] at hsg
              refine res_row hH (id := id) (g := g') (g' := c) (c' := c + 1) hob hbk ?_ hMb (.inl ⟨rfl, rfl⟩) (vs := vs0 ++ (Builtin.zeroCells zv.cells n).toList) (hvs.append (rdL_sc _)) (glL_append hgc (glL_sc _)) ?_ ?_ ?_ (by simp [AV.gl])
              · simp only [List.size_toArray, List.length_append, List.length_take, List.length_drop, hzl, Array.length_toList]
                omega
              · intro j u hu
                have := hsg j u
                rw [← hvl, List.take_length, List.drop_of_length_le (by omega), List.append_nil] at this
                rw [hvl] at this
                exact this hu
              · intro u hu
                rcases List.mem_append.1 hu with hu | hu
                · exact h1 u hu
                · exact hzone n u hu
              · refine rd_own_put (E := E') (k := cs.size) hroom ?_ (by rw [Nat.zero_add] at q4; exact q4)
                simp only [World.shape?, setRow_get _ _ _ _ _ _ hbk]
                simp only [List.size_toArray, List.length_append, List.length_take, List.length_drop, hzl, Array.length_toList]
                congr 2
                omega
            · have hold : ∀ (j : Nat) (v : Value), vs0[j]? = some v → w.cell? ((⟨b, o, none⟩ : Addr).add j) = some v := by
                intro j v hv
                have hlt : j < vs0.length := by
                  rcases Nat.lt_or_ge j vs0.length with h' | h'
                  · exact h'
                  · rw [List.getElem?_eq_none h'] at hv; simp at hv
                have ho : o = 0 := by
                  rcases q2 with q2 | q2
                  · exact q2
                  · have hn0 : m = 0 := by omega
                    rw [hvl, hn0] at hlt
                    simp at hlt
                subst ho
                rw [add_mk]
                simp only [World.cell?, hbk]
                simpa using hcs j v hv
              have hbb : (m + n) * i.bytes ≤ 140737488355328 := by omega
              have hrun := run_appz_grow (P := P) (w := w) T U ty E i zv (kn := kk) hT hU hi hz h0 ⟨b, o, none⟩ m cap vs0 hvl hold n (Nat.lt_of_not_le hroom) (Nat.pos_of_ne_zero hn0) hb' (Nat.le_trans (Nat.mul_le_mul_right _ (Nat.le_add_left n m)) hb) (growslice_fits (by omega) hbb)
              refine ⟨_, _, hrun, ?_⟩
              have hge := grownCap_ge w (m + n) cap E
              have := aApp_new (e := E) (es := es') (i := i) hes hH hM id (n := m) (m := n) (cap := grownCap w (m + n) cap E) (news := (Builtin.zeroCells zv.cells n).toList) (zs := Builtin.zeroCells zv.cells (grownCap w (m + n) cap E - (m + n))) hge (by rw [size_zeroCells, hzs]) hvs (rdL_sc _) hgc (glL_sc _) hvl (hzl n) h1 (hzone n)
              rw [hflat]
              simpa using this
      · exact absurd h (by simp)
    · obtain ⟨hk, rfl, hb, hb', _⟩ := h
      obtain ⟨n, rfl⟩ := Int.eq_ofNat_of_zero_le hk
      simp only [Int.ofNat_eq_natCast, Int.toNat_natCast] at *
      simp only [Rd] at hx
      obtain ⟨base, len, kap, vs, rfl, rfl, _, hr, hbn, hbc, _⟩ := hx
      have hbn := hbn.1 (by trivial)
      subst hbn
      have := hbc rfl
      subst this
      have : vs = [] := List.eq_nil_of_length_eq_zero (by rw [hr.length]; rfl)
      subst this
      exact hnil kk n d hb hb'
    · obtain ⟨hk, hb, hb', _⟩ := h
      obtain ⟨n, rfl⟩ := Int.eq_ofNat_of_zero_le hk
      simp only [Int.ofNat_eq_natCast, Int.toNat_natCast] at *
      have hx := hx.sc_inv
      subst hx
      exact hnil kk n d hb hb'
    · exact absurd h (by simp)
  · exact absurd h (by simp)
theorem aCopy_sound {T T' E ty : TypeId} {i : TypeInfo} (hT : P.underlying T = some (.slice E)) (hi : P.info? E = some i) (hs : i.size = 1)
    (hH : Heap c M G hp w) {x y : AV} {vx vy : Value} (hx : Rd G w x vx) (hy : Rd G w y vy) (hg : y.gl c) (h : (aCopy x y hp c).1) :
    ∃ v w', (Builtin.copy_ #[T, T'] ty #[vx, vy]).run P w = .ok v w' ∧ Res c M G w (aCopy x y hp c).2.1 (aCopy x y hp c).2.2.1 (aCopy x y hp c).2.2.2 v w' := by
  unfold aCopy at *
  split at h
  · rename_i id g es lo n
    split at h
    · rename_i g' nl cells hid
      obtain ⟨he, rfl, rfl, hle⟩ := h
      obtain ⟨ob, hob, hnl, hnil, hrow⟩ := hH.rowC _ _ _ _ hid
      have hgc := (hH.gl _ _ _ _ hid).2
      obtain ⟨base, kap, vs, rfl, g1, g2, g3, g4, g5⟩ := elemsA_sound hH hy hg he
      generalize (elemsA none hp y).2 = ys at *
      have hl := g1.length
      simp only [Rd] at hx
      have hx := hx.2 _ hob
      have hone : ∀ u ∈ vs, u.oneCell' = true := fun u hu => by
        obtain ⟨k, hk⟩ := List.getElem?_of_mem hu
        exact g3 k u hk
      cases ob with
      | none =>
        obtain ⟨rfl, rfl, rfl⟩ := hx
        have hc := hnil rfl
        have hnl' : nl = true := hnl.2 rfl
        subst hc; subst hnl'
        have hrun : (Builtin.copy_ #[T, T'] ty #[.slice none 0 0, .slice base vs.length kap]).run P w = .ok (goInt 0) w := by
          have hmin : vs.length.min 0 = 0 := by simp
          cases base <;> simp [Builtin.copy_, run_underlying hT, Builtin.lenOf, Builtin.firstCells, sizeOf, typeInfo, hi, loadCells, loadCellsFrom]
        refine ⟨_, _, hrun, ?_⟩
        have e1 : splice 0 (ys.take 0) [] = [] := by simp [splice]
        have e2 : updH hp id (some (g', AO.row true (splice 0 (ys.take 0) []))) = hp := by
          funext j
          unfold updH
          split
          · rename_i e; subst e; rw [e1, hid]
          · rfl
        simp only [e2]
        exact Res.same hH (by simp [int, Rd, goInt]) gl_int
      | some b =>
        obtain ⟨cap, o, E0, k0, rfl, q1, q2, q3, q4⟩ := hx
        obtain ⟨_, hMb, vs0, cs, E', hbk, hvs, hcs, h1⟩ := hrow b rfl ⟨_, q3⟩
        have hnl' : nl = false := by cases nl <;> simp_all
        subst hnl'
        have hl0 := hvs.length
        have hsz := le_size hcs
        have hlen : (vs.take n).length = vs.length.min n := by simp [Nat.min_comm]
        have hyl : min ys.length n = (vs.take n).length := by rw [hlen, hl]
        by_cases hn0 : (vs.take n).length = 0
        · -- nothing is copied
          have hvn : vs.take n = [] := List.eq_nil_of_length_eq_zero hn0
          have hyn : ys.take n = [] := List.eq_nil_of_length_eq_zero (by rw [List.length_take, ← hl, ← List.length_take]; exact hn0)
          have hmin : vs.length.min n = 0 := by rw [← hlen, hn0]
          have hrun : (Builtin.copy_ #[T, T'] ty #[.slice (some ⟨b, o, none⟩) n cap, .slice base vs.length kap]).run P w = .ok (goInt 0) w := by
            cases base <;> simp [Builtin.copy_, run_underlying hT, Builtin.lenOf, Builtin.firstCells, sizeOf, typeInfo, hi, loadCells, loadCellsFrom, storeCells, hmin]
          refine ⟨_, _, hrun, ?_⟩
          have e1 : splice lo (ys.take n) cells = cells := by rw [hyn]; simp [splice]
          have e2 : updH hp id (some (g', AO.row false (splice lo (ys.take n) cells))) = hp := by
            funext j
            unfold updH
            split
            · rename_i e; subst e; rw [e1, hid]
            · rfl
          simp only [e2, hyl, hn0]
          exact Res.same hH (by simp [int, Rd, goInt]) gl_int
        · have hpos : 0 < vs.length ∧ 0 < n := by
            rw [hlen] at hn0
            have : vs.length.min n ≤ vs.length := Nat.min_le_left _ _
            have : vs.length.min n ≤ n := Nat.min_le_right _ _
            omega
          have ho : o = lo := by rcases q2 with q2 | q2 <;> omega
          subst ho
          cases base with
          | none => have := (g4 rfl).1; subst this; simp at hpos
          | some a =>
            obtain ⟨k1, k2⟩ := g5 a rfl (fun e => by rw [e] at hpos; simp at hpos)
            have hcell : ∀ (j : Nat) (u : Value), (vs.take n)[j]? = some u → w.cell? (a.add j) = some u := by
              intro j u hu
              rw [List.getElem?_take] at hu
              split at hu
              · have hh := k2 j u hu
                have ho := g3 j u hu
                simp only [shp] at ho
                have hcv : u.cells.toList = [u] := by cases u <;> first | rfl | simp [Value.oneCell'] at ho
                have := hh 0 u (by rw [hcv]; rfl)
                rw [← spot_mk k1, add_mk]
                simpa [esz] using this
              · simp at hu
            have hfit : o + (vs.take n).length ≤ cs.size := by
              have : (vs.take n).length ≤ n := by simp; omega
              omega
            have hrun := run_copy_row (P := P) w T T' ty E b o n cap a vs.length kap cs E' (vs.take n) hT (by simp [hi, hs]) hbk hlen hcell hfit (fun u hu => hone u (List.mem_of_mem_take hu))
            refine ⟨_, _, hrun, ?_⟩
            simp only [hyl]
            refine res_row hH (id := id) (g := g') (g' := g') (c' := c) hob hbk ?_ hMb (.inr ⟨rfl, rfl⟩) (vs := vs0.take o ++ vs.take n ++ vs0.drop (o + (vs.take n).length)) ?_ ?_ ?_ ?_ (by simp [int, Rd, goInt]) gl_int
            · simp only [List.size_toArray, List.length_append, List.length_drop, Array.length_toList, List.length_take]
              simp only [List.length_take] at hfit
              omega
            · unfold splice
              have : (ys.take n).length = (vs.take n).length := by simp [hl]
              rw [this]
              exact ((hvs.take o).append (g1.take n)).append (hvs.drop _)
            · unfold splice
              exact glL_append (glL_append (glL_take hgc) (glL_take g2)) (glL_drop hgc)
            · exact splice_get hcs (by omega) hfit
            · intro u hu
              simp only [List.mem_append] at hu
              rcases hu with (hu | hu) | hu
              · exact h1 u (List.mem_of_mem_take hu)
              · exact hone u (List.mem_of_mem_take hu)
              · exact h1 u (List.mem_of_mem_drop hu)
    · exact absurd h (by simp)
  · exact absurd h (by simp)
end
end Go.Proofs.YtbmmdkbinlnogaaDoor.Aw
