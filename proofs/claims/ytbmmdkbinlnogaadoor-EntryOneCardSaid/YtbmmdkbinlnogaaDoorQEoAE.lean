/- Parts of the proofs of Eo. -/
import Derived.Test.YtbmmdkbinlnogaaDoorQEoAD
namespace Go.Proofs.YtbmmdkbinlnogaaDoor.Aw
open Go
set_option linter.unusedSimpArgs false
set_option linter.unusedVariables false
section
variable {P : Program} {G : Gh} {w w' : World} {c : Nat} {M : Nat → Prop} {hp : Hp}
theorem lt_of_some {w : World} {b : Nat} {o : Obj} (h : w.heap[b]? = some o) : b < w.heap.size := by
  rcases Nat.lt_or_ge b w.heap.size with h' | h'
  · exact h'
  · rw [Array.getElem?_eq_none h'] at h; simp at h
theorem lt_of_shape {w : World} {b : Nat} {p : TypeId × Nat} (h : w.shape? b = some p) : b < w.heap.size := by
  unfold World.shape? at h
  split at h
  · exact lt_of_some (by assumption)
  · simp at h
theorem Blk.lt {w : World} {b : Nat} {vs : List Value} (h : Blk w.heap[b]? vs) : b < w.heap.size := by
  rcases h with ⟨cs, E, h, _⟩ | ⟨es, ck, h, _⟩ <;> exact lt_of_some h
theorem heap_grow (hH : Heap c M G hp w) (hk : Keep w.heap.size (fun _ => False) w w') (T : Nat → Prop) (hT : ∀ b, T b → w.heap.size ≤ b ∧ b < w'.heap.size) :
    Ext c G w ⟨fun b => G.S b ∨ T b, G.ob⟩ w' ∧ Heap c M ⟨fun b => G.S b ∨ T b, G.ob⟩ hp w' := by
  have hE : Ext c G w ⟨fun b => G.S b ∨ T b, G.ob⟩ w' :=
    ⟨fun _ h => .inl h, fun b hb => hk.block b (hH.lt b hb) (fun h => h), fun b p hp => by
      have := hk.block b (lt_of_shape hp) (fun h => h)
      simpa [World.shape?, this] using hp, fun _ _ _ _ h => h⟩
  refine ⟨hE, ?_, hH.live, hH.gl, hH.inj, ?_⟩
  · rintro b (hb | hb)
    · exact Nat.lt_of_lt_of_le (hH.lt b hb) hk.size
    · exact (hT b hb).2
  · intro id g nl cells hid
    obtain ⟨ob, h1, h2, h3, h4⟩ := hH.row _ _ _ _ hid
    refine ⟨ob, h1, h2, h3, fun b hb => ?_⟩
    obtain ⟨k1, k2, vs, k4, k3⟩ := h4 b hb
    have hlt := k3.lt
    refine ⟨?_, k2, vs, RdL.mono hE _ _ (hH.gl _ _ _ _ hid).2 k4, by rw [hk.block b hlt (fun h => h)]; exact k3⟩
    rintro (h | h)
    · exact k1 h
    · have := (hT b h).1; omega
def putG (G : Gh) (id g nb : Nat) : Gh := ⟨G.S, fun i k => if i = id then (if k = g then some (some nb) else none) else G.ob i k⟩
theorem heap_putB (hH : Heap c M G hp w) {id g nb c' : Nat} {cells : List AV} {vs : List Value}
    (hsz : w.heap.size ≤ w'.heap.size) (hfr : ∀ b, b < w.heap.size → b ≠ nb → w'.heap[b]? = w.heap[b]?) (hshape : ∀ p, w.shape? nb = some p → w'.shape? nb = some p)
    (hnb : w.heap.size ≤ nb ∨ ∃ g, G.ob id g = some (some nb)) (hM : M nb) (hnew : Blk w'.heap[nb]? vs)
    (hg : (g = c ∧ c' = c + 1) ∨ (G.ob id g = some (some nb) ∧ c' = c)) (hr : RdL G w cells vs) (hgl : AV.gl.glL c cells) :
    Ext c G w (putG G id g nb) w' ∧ Heap c' M (putG G id g nb) (updH hp id (some (g, .row false cells))) w' := by
  have hS : ¬ G.S nb := by
    intro h
    rcases hnb with h' | ⟨g0, h'⟩
    · have := hH.lt nb h; omega
    · obtain ⟨⟨nl, cells0⟩, ho⟩ := hH.live _ _ _ h'
      obtain ⟨ob, k1, _, _, k4⟩ := hH.row _ _ _ _ ho
      rw [h'] at k1; cases k1
      exact (k4 nb rfl).1 h
  have hgc : g < c' := by
    rcases hg with ⟨rfl, rfl⟩ | ⟨h, rfl⟩
    · omega
    · obtain ⟨⟨nl, cells0⟩, ho⟩ := hH.live _ _ _ h
      exact (hH.gl _ _ _ _ ho).1
  have hcc : c ≤ c' := by rcases hg with ⟨_, rfl⟩ | ⟨_, rfl⟩ <;> omega
  have hE : Ext c G w (putG G id g nb) w' := by
    refine ⟨fun _ h => h, fun b hb => hfr b (hH.lt b hb) (fun e => hS (e ▸ hb)), fun b p hp => ?_, fun i k ob hk ho => ?_⟩
    · by_cases e : b = nb
      · subst e; exact hshape p hp
      · have := hfr b (lt_of_shape hp) e
        simpa [World.shape?, this] using hp
    · simp only [putG] at ho
      split at ho
      · rename_i e
        split at ho
        · rename_i e'
          subst e; subst e'
          cases ho
          rcases hg with ⟨rfl, _⟩ | ⟨h, _⟩
          · omega
          · exact h
        · simp at ho
      · exact ho
  have hother : ∀ i k b, i ≠ id → G.ob i k = some (some b) → b ≠ nb := by
    intro i k b hi hb e
    subst e
    rcases hnb with h' | ⟨g0, h'⟩
    · obtain ⟨⟨nl, cells0⟩, ho⟩ := hH.live _ _ _ hb
      obtain ⟨ob, k1, _, _, k4⟩ := hH.row _ _ _ _ ho
      rw [hb] at k1; cases k1
      obtain ⟨_, _, _, _, k3⟩ := k4 b rfl
      have := k3.lt
      omega
    · exact hi (hH.inj _ _ _ _ _ hb h')
  refine ⟨hE, ?_, ?_, ?_, ?_, ?_⟩
  · exact fun b hb => Nat.lt_of_lt_of_le (hH.lt b hb) hsz
  · intro i k ob ho
    simp only [putG] at ho
    unfold updH
    split at ho
    · rename_i e
      split at ho
      · rename_i e'
        subst e'
        rw [if_pos e]
        exact ⟨_, rfl⟩
      · simp at ho
    · rename_i e
      rw [if_neg e]
      exact hH.live _ _ _ ho
  · intro i k nl cells0 hi
    unfold updH at hi
    split at hi
    · simp at hi
      obtain ⟨rfl, rfl, rfl⟩ := hi
      exact ⟨hgc, glL_mono hcc _ hgl⟩
    · obtain ⟨a, b⟩ := hH.gl _ _ _ _ hi
      exact ⟨by omega, glL_mono hcc _ b⟩
  · intro i k i' k' b hi hi'
    simp only [putG] at hi hi'
    split at hi
    · rename_i e
      split at hi
      · cases hi
        split at hi'
        · rename_i e'; rw [e, e']
        · rename_i e'
          exact absurd rfl (hother _ _ _ e' hi')
      · simp at hi
    · rename_i e
      split at hi'
      · rename_i e'
        split at hi'
        · cases hi'
          exact absurd rfl (hother _ _ _ e hi)
        · simp at hi'
      · exact hH.inj _ _ _ _ _ hi hi'
  · intro i k nl cells0 hi
    unfold updH at hi
    split at hi
    · rename_i e
      simp at hi
      obtain ⟨rfl, rfl, rfl⟩ := hi
      refine ⟨some nb, by simp [putG, e], by simp, by simp, fun b hb => ?_⟩
      cases hb
      exact ⟨hS, hM, vs, RdL.mono hE _ _ hgl hr, hnew⟩
    · rename_i e
      obtain ⟨ob, k1, k2, k3, k4⟩ := hH.row _ _ _ _ hi
      refine ⟨ob, by simp [putG, e, k1], k2, k3, fun b hb => ?_⟩
      obtain ⟨q1, q2, vs', q4, q3⟩ := k4 b hb
      have hne := hother i k b e (by rw [k1, hb])
      exact ⟨q1, q2, vs', RdL.mono hE _ _ (hH.gl _ _ _ _ hi).2 q4, by rw [hfr b q3.lt hne]; exact q3⟩
theorem heap_put (hH : Heap c M G hp w) {id g nb c' : Nat} {cells : List AV} {vs : List Value} {cs : Array Value} {E : TypeId}
    (hsz : w.heap.size ≤ w'.heap.size) (hfr : ∀ b, b < w.heap.size → b ≠ nb → w'.heap[b]? = w.heap[b]?) (hshape : ∀ p, w.shape? nb = some p → w'.shape? nb = some p)
    (hnb : w.heap.size ≤ nb ∨ ∃ g, G.ob id g = some (some nb)) (hM : M nb) (hnew : w'.heap[nb]? = some (.cells cs E (0, 0)))
    (hg : (g = c ∧ c' = c + 1) ∨ (G.ob id g = some (some nb) ∧ c' = c)) (hr : RdL G w cells vs) (hgl : AV.gl.glL c cells) (hcs : ∀ (j : Nat) (v : Value), vs[j]? = some v → cs[j]? = some v)
    (h1 : ∀ v ∈ vs, v.oneCell' = true) :
    Ext c G w (putG G id g nb) w' ∧ Heap c' M (putG G id g nb) (updH hp id (some (g, .row false cells))) w' :=
  heap_putB hH hsz hfr hshape hnb hM (Blk.cells hnew hcs h1) hg hr hgl
theorem alloc_get (w : World) (o : Obj) : (w.alloc o).heap[w.heap.size]? = some o := by
  show (w.heap.push o)[w.heap.size]? = some o
  simp
theorem alloc_keep (w : World) (o : Obj) : Keep w.heap.size (fun _ => False) w (w.alloc o) :=
  ⟨rfl, rfl, rfl, by show _ ≤ (w.heap.push o).size; simp, fun k hk _ => by
    show (w.heap.push o)[k]? = _
    rw [Array.getElem?_push, if_neg (by omega)]⟩
theorem alloc_size (w : World) (o : Obj) : (w.alloc o).heap.size = w.heap.size + 1 := by show (w.heap.push o).size = _; simp
theorem heap_alloc (hH : Heap c M G hp w) (hk : Keep w.heap.size (fun _ => False) w w') (hlt : w.heap.size < w'.heap.size) (id : Nat) {cells : List AV} {vs : List Value} {cs : Array Value} {E : TypeId} (hM : ∀ b, w.heap.size ≤ b → M b)
    (hnew : w'.heap[w.heap.size]? = some (.cells cs E (0, 0))) (hr : RdL G w cells vs) (hgl : AV.gl.glL c cells) (hcs : ∀ (j : Nat) (v : Value), vs[j]? = some v → cs[j]? = some v) (h1 : ∀ v ∈ vs, v.oneCell' = true) :
    Ext c G w (putG G id c w.heap.size) w' ∧ Heap (c + 1) M (putG G id c w.heap.size) (updH hp id (some (c, .row false cells))) w' :=
  heap_put hH hk.size (fun b hb _ => hk.block b hb (fun h => h)) (fun p h => absurd (lt_of_shape h) (by omega)) (.inl (Nat.le_refl _)) (hM _ (Nat.le_refl _)) hnew (.inl ⟨rfl, rfl⟩) hr hgl hcs h1
theorem putG_at (G : Gh) (id g nb : Nat) : (putG G id g nb).ob id g = some (some nb) := by simp [putG]
end
end Go.Proofs.YtbmmdkbinlnogaaDoor.Aw
