/- Parts of the proofs of Eo. -/
import Derived.Test.YtbmmdkbinlnogaaDoorQEoAI
namespace Go.Proofs.YtbmmdkbinlnogaaDoor.Aw
open Go
set_option linter.unusedSimpArgs false
set_option linter.unusedVariables false
section
variable {G G' : Gh} {w w' : World} {ρ : Nat → Nat → Nat × Nat}
mutual
theorem Rd.unren (hS : ∀ b, G.S b → G'.S b) (hob : ∀ id g ob, G'.ob id g = some ob → G.ob (ρ id g).1 (ρ id g).2 = some ob) : ∀ (x : AV) (v : Value), Rd G w (ren ρ x) v → Rd G' w x v
  | .junk, _, _ => by simp [Rd]
  | .sc u, v, hr => by simpa [ren, Rd] using hr
  | .agg xs, v, hr => by
    simp only [ren, Rd] at hr ⊢
    obtain ⟨cs, rfl, hr, h1⟩ := hr
    exact ⟨cs, rfl, RdL.unren hS hob xs cs hr, h1⟩
  | .tup xs, v, hr => by
    simp only [ren, Rd] at hr ⊢
    obtain ⟨cs, rfl, hr⟩ := hr
    exact ⟨cs, rfl, RdL.unren hS hob xs cs hr⟩
  | .sl nl es xs, v, hr => by
    simp only [ren, Rd] at hr ⊢
    obtain ⟨base, len, cap, vs, rfl, h1, h2, h3, h4, h5, h6⟩ := hr
    refine ⟨base, len, cap, vs, rfl, h1, h2, RdL.unren hS hob xs vs h3, h4, h5, fun a ha hne => ?_⟩
    obtain ⟨k1, k2, k3⟩ := h6 a ha hne
    exact ⟨k1, hS _ k2, k3⟩
  | .fp y off, v, hr => by
    simp only [ren, Rd] at hr ⊢
    obtain ⟨u, b, o, h1, rfl, h2, h3⟩ := hr
    exact ⟨u, b, o, Rd.unren hS hob y u h1, rfl, hS _ h2, h3⟩
  | .own id g es lo n, v, hr => by
    simp only [ren, Rd] at hr ⊢
    obtain ⟨hr0, hr⟩ := hr
    exact ⟨hr0, fun ob hb => hr ob (hob _ _ _ hb)⟩
  | .op id g off, v, hr => by
    simp only [ren, Rd] at hr ⊢
    obtain ⟨hr0, hr⟩ := hr
    exact ⟨hr0, fun ob hb => hr ob (hob _ _ _ hb)⟩
  | .mp id g, v, hr => by
    simp only [ren, Rd] at hr ⊢
    obtain ⟨hr0, hr⟩ := hr
    exact ⟨hr0, fun ob hb => hr ob (hob _ _ _ hb)⟩
  | .clo f xs, v, hr => by
    simp only [ren, Rd] at hr ⊢
    obtain ⟨cs, rfl, hr⟩ := hr
    exact ⟨cs, rfl, RdL.unren hS hob xs cs hr⟩
theorem RdL.unren (hS : ∀ b, G.S b → G'.S b) (hob : ∀ id g ob, G'.ob id g = some ob → G.ob (ρ id g).1 (ρ id g).2 = some ob) : ∀ (xs : List AV) (vs : List Value), RdL G w (ren.renL ρ xs) vs → RdL G' w xs vs
  | [], vs, hr => by simpa [ren.renL, RdL] using hr
  | x :: xs, vs, hr => by
    simp only [ren.renL, RdL] at hr ⊢
    obtain ⟨v, r, rfl, h1, h2⟩ := hr
    exact ⟨v, r, rfl, Rd.unren hS hob x v h1, RdL.unren hS hob xs r h2⟩
end
mutual
theorem Rd.ren {B : Bool} (hS : B = false → ∀ b, G.S b → G'.S b) (hob : ∀ id g ob, G'.ob (ρ id g).1 (ρ id g).2 = some ob → G.ob id g = some ob) : ∀ (x : AV) (v : Value), (B = true → x.fo = true) → Rd G w x v → Rd G' w (Aw.ren ρ x) v
  | .junk, _, _, _ => by simp [Aw.ren, Rd]
  | .sc u, v, _, hr => by simpa [Aw.ren, Rd] using hr
  | .agg xs, v, hf, hr => by
    simp only [Aw.ren, Rd] at hr ⊢
    obtain ⟨cs, rfl, hr, h1⟩ := hr
    exact ⟨cs, rfl, RdL.ren hS hob xs cs (by simpa [AV.fo] using hf) hr, h1⟩
  | .tup xs, v, hf, hr => by
    simp only [Aw.ren, Rd] at hr ⊢
    obtain ⟨cs, rfl, hr⟩ := hr
    exact ⟨cs, rfl, RdL.ren hS hob xs cs (by simpa [AV.fo] using hf) hr⟩
  | .sl nl es xs, v, hf, hr => by
    cases B with
    | true => simp [AV.fo] at hf
    | false =>
      simp only [Aw.ren, Rd] at hr ⊢
      obtain ⟨base, len, cap, vs, rfl, h1, h2, h3, h4, h5, h6⟩ := hr
      refine ⟨base, len, cap, vs, rfl, h1, h2, RdL.ren hS hob xs vs (by simp) h3, h4, h5, fun a ha hne => ?_⟩
      obtain ⟨k1, k2, k3⟩ := h6 a ha hne
      exact ⟨k1, hS rfl _ k2, k3⟩
  | .fp y off, v, hf, hr => by
    cases B with
    | true => simp [AV.fo] at hf
    | false =>
      simp only [Aw.ren, Rd] at hr ⊢
      obtain ⟨u, b, o, h1, rfl, h2, h3⟩ := hr
      exact ⟨u, b, o, Rd.ren hS hob y u (by simp) h1, rfl, hS rfl _ h2, h3⟩
  | .own id g es lo n, v, _, hr => by
    simp only [Aw.ren, Rd] at hr ⊢
    obtain ⟨hr0, hr⟩ := hr
    exact ⟨hr0, fun ob hb => hr ob (hob _ _ _ hb)⟩
  | .op id g off, v, _, hr => by
    simp only [Aw.ren, Rd] at hr ⊢
    obtain ⟨hr0, hr⟩ := hr
    exact ⟨hr0, fun ob hb => hr ob (hob _ _ _ hb)⟩
  | .mp id g, v, _, hr => by
    simp only [Aw.ren, Rd] at hr ⊢
    obtain ⟨hr0, hr⟩ := hr
    exact ⟨hr0, fun ob hb => hr ob (hob _ _ _ hb)⟩
  | .clo f xs, v, hf, hr => by
    simp only [Aw.ren, Rd] at hr ⊢
    obtain ⟨cs, rfl, hr⟩ := hr
    exact ⟨cs, rfl, RdL.ren hS hob xs cs (by simpa [AV.fo] using hf) hr⟩
theorem RdL.ren {B : Bool} (hS : B = false → ∀ b, G.S b → G'.S b) (hob : ∀ id g ob, G'.ob (ρ id g).1 (ρ id g).2 = some ob → G.ob id g = some ob) : ∀ (xs : List AV) (vs : List Value), (B = true → AV.fo.foL xs = true) → RdL G w xs vs → RdL G' w (Aw.ren.renL ρ xs) vs
  | [], vs, _, hr => by simpa [Aw.ren.renL, RdL] using hr
  | x :: xs, vs, hf, hr => by
    simp only [Aw.ren.renL, RdL] at hr ⊢
    obtain ⟨v, r, rfl, h1, h2⟩ := hr
    refine ⟨v, r, rfl, Rd.ren hS hob x v (fun e => ?_) h1, RdL.ren hS hob xs r (fun e => ?_) h2⟩
    · have := hf e; simp only [AV.fo.foL, Bool.and_eq_true] at this; exact this.1
    · have := hf e; simp only [AV.fo.foL, Bool.and_eq_true] at this; exact this.2
end
mutual
theorem gl_ren {k c : Nat} (h : ∀ id g, g < k → (ρ id g).2 < c) : ∀ x : AV, x.gl k → (ren ρ x).gl c
  | .junk, _ => by simp [ren, AV.gl]
  | .sc _, _ => by simp [ren, AV.gl]
  | .agg xs, hg => by simp only [ren, AV.gl] at hg ⊢; exact glL_ren h xs hg
  | .tup xs, hg => by simp only [ren, AV.gl] at hg ⊢; exact glL_ren h xs hg
  | .sl _ _ xs, hg => by simp only [ren, AV.gl] at hg ⊢; exact glL_ren h xs hg
  | .fp y _, hg => by simp only [ren, AV.gl] at hg ⊢; exact gl_ren h y hg
  | .own _ _ _ _ _, hg => by simp only [ren, AV.gl] at hg ⊢; exact h _ _ hg
  | .op _ _ _, hg => by simp only [ren, AV.gl] at hg ⊢; exact h _ _ hg
  | .mp _ _, hg => by simp only [ren, AV.gl] at hg ⊢; exact h _ _ hg
  | .clo _ xs, hg => by simp only [ren, AV.gl] at hg ⊢; exact glL_ren h xs hg
theorem glL_ren {k c : Nat} (h : ∀ id g, g < k → (ρ id g).2 < c) : ∀ xs : List AV, AV.gl.glL k xs → AV.gl.glL c (ren.renL ρ xs)
  | [], _ => by simp [ren.renL, AV.gl.glL]
  | x :: xs, hg => by simp only [ren.renL, AV.gl.glL] at hg ⊢; exact ⟨gl_ren h x hg.1, glL_ren h xs hg.2⟩
end
mutual
theorem ren_free (ρ : Nat → Nat → Nat × Nat) : ∀ x : AV, x.free = true → ren ρ x = x
  | .junk, _ => rfl
  | .sc _, _ => rfl
  | .agg xs, h => by simp only [ren, AV.free] at h ⊢; rw [renL_free ρ xs h]
  | .tup xs, h => by simp only [ren, AV.free] at h ⊢; rw [renL_free ρ xs h]
  | .clo _ xs, h => by simp only [ren, AV.free] at h ⊢; rw [renL_free ρ xs h]
  | .mp _ _, h => by simp [AV.free] at h
  | .sl _ _ xs, h => by simp only [ren, AV.free] at h ⊢; rw [renL_free ρ xs h]
  | .fp y _, h => by simp only [ren, AV.free] at h ⊢; rw [ren_free ρ y h]
  | .own _ _ _ _ _, h => by simp [AV.free] at h
  | .op _ _ _, h => by simp [AV.free] at h
theorem renL_free (ρ : Nat → Nat → Nat × Nat) : ∀ xs : List AV, AV.free.freeL xs = true → ren.renL ρ xs = xs
  | [], _ => rfl
  | x :: xs, h => by simp only [ren.renL, AV.free.freeL, Bool.and_eq_true] at h ⊢; rw [ren_free ρ x h.1, renL_free ρ xs h.2]
end
theorem renL_nil {ρ : Nat → Nat → Nat × Nat} {xs : List AV} (h : ren.renL ρ xs = []) : xs = [] := by
  cases xs with
  | nil => rfl
  | cons x xs => simp [ren.renL] at h
theorem foH_mem : ∀ {l : List (Nat × Nat × AO)}, foH l = true → ∀ {id g nl cells}, (id, g, AO.row nl cells) ∈ l → AV.fo.foL cells = true
  | [], _, _, _, _, _, h => by simp at h
  | (_, _, .row _ cs) :: r, h, id, g, nl, cells, hm => by
    simp only [foH, Bool.and_eq_true] at h
    rcases List.mem_cons.1 hm with e | hm
    · cases e; exact h.1
    · exact foH_mem h.2 hm
theorem lookH_mem : ∀ {l : List (Nat × Nat × AO)} {id : Nat} {o : Nat × AO}, lookH l id = some o → (id, o) ∈ l
  | [], _, _, h => by simp [lookH] at h
  | (s, v) :: r, id, o, h => by
    simp only [lookH] at h
    split at h
    · rename_i e; cases h; subst e; exact List.mem_cons_self ..
    · exact List.mem_cons_of_mem _ (lookH_mem h)
end
section
variable {hs : List (Nat × Nat)} {D c : Nat}
theorem rho_handed {id g : Nat} (h : handed hs.length id) : ∃ p, hs[id - 1000]? = some p ∧ p ∈ hs ∧ rho hs D c id g = (p.1, if g = 0 then p.2 else c + g) := by
  have hl := h.2
  refine ⟨hs[id - 1000], List.getElem?_eq_getElem hl, List.getElem_mem hl, ?_⟩
  unfold rho
  rw [if_pos h]
  have : hs.getD (id - 1000) (0, 0) = hs[id - 1000] := by simp [List.getD, List.getElem?_eq_getElem hl]
  rw [this]
theorem rho_new {id g : Nat} (h : ¬ handed hs.length id) : rho hs D c id g = (D + id, c + g) := by unfold rho; rw [if_neg h]
theorem rho_fst (id g g' : Nat) : (rho hs D c id g).1 = (rho hs D c id g').1 := by unfold rho; split <;> rfl
theorem nodup_get (hn : (hs.map (·.1)).Nodup) {i j : Nat} {p q : Nat × Nat} (hi : hs[i]? = some p) (hj : hs[j]? = some q) (e : p.1 = q.1) : i = j := by
  have h1 : (hs.map (·.1))[i]? = some p.1 := by simp [hi]
  have h2 : (hs.map (·.1))[j]? = some q.1 := by simp [hj]
  have hl : i < (hs.map (·.1)).length := by
    rcases Nat.lt_or_ge i (hs.map (·.1)).length with h | h
    · exact h
    · rw [List.getElem?_eq_none h] at h1; simp at h1
  exact (List.getElem?_inj hl hn).1 (by rw [h1, h2, e])
theorem rho_inj (hn : (hs.map (·.1)).Nodup) (hD : ∀ p ∈ hs, p.1 < D) {id id' g g' : Nat} (h : (rho hs D c id g).1 = (rho hs D c id' g').1) : id = id' := by
  by_cases h1 : handed hs.length id
  · obtain ⟨p, p1, p2, p3⟩ := rho_handed (D := D) (c := c) (g := g) h1
    by_cases h2 : handed hs.length id'
    · obtain ⟨q, q1, q2, q3⟩ := rho_handed (D := D) (c := c) (g := g') h2
      rw [p3, q3] at h
      have := nodup_get hn p1 q1 h
      have := h1.1; have := h2.1; omega
    · rw [p3, rho_new h2] at h
      have := hD p p2
      simp only at h; omega
  · by_cases h2 : handed hs.length id'
    · obtain ⟨q, q1, q2, q3⟩ := rho_handed (D := D) (c := c) (g := g') h2
      rw [q3, rho_new h1] at h
      have := hD q q2
      simp only at h; omega
    · rw [rho_new h1, rho_new h2] at h
      simp only at h; omega
theorem rho_gen (hc : ∀ p ∈ hs, p.2 < c) {id g g' : Nat} (h : (rho hs D c id g).2 = (rho hs D c id g').2) : g = g' := by
  by_cases h1 : handed hs.length id
  · obtain ⟨p, p1, p2, p3⟩ := rho_handed (D := D) (c := c) (g := g) h1
    obtain ⟨q, q1, q2, q3⟩ := rho_handed (D := D) (c := c) (g := g') h1
    rw [p1] at q1; cases q1
    rw [p3, q3] at h
    have := hc p p2
    simp only at h
    split at h <;> split at h <;> omega
  · rw [rho_new h1, rho_new h1] at h
    simp only at h; omega
theorem rho_lt (hc : ∀ p ∈ hs, p.2 < c) {k id g : Nat} (h : g < k) : (rho hs D c id g).2 < c + k := by
  by_cases h1 : handed hs.length id
  · obtain ⟨p, p1, p2, p3⟩ := rho_handed (D := D) (c := c) (g := g) h1
    rw [p3]
    have := hc p p2
    simp only
    split <;> omega
  · rw [rho_new h1]; simp only; omega
def who (hs : List (Nat × Nat)) (D c : Nat) (hout : List (Nat × Nat × AO)) (i : Nat) : Option (Nat × Nat × AO) := hout.find? fun p => (rho hs D c p.1 p.2.1).1 == i
theorem who_some {hout : List (Nat × Nat × AO)} {i : Nat} {p : Nat × Nat × AO} (hn : (hs.map (·.1)).Nodup) (hD : ∀ p ∈ hs, p.1 < D) (h : who hs D c hout i = some p) : lookH hout p.1 = some p.2 ∧ (rho hs D c p.1 p.2.1).1 = i := by
  induction hout with
  | nil => simp [who] at h
  | cons q r ih =>
    obtain ⟨id, v⟩ := q
    simp only [who, List.find?_cons] at h
    split at h
    · rename_i e
      cases h
      exact ⟨by simp [lookH], by simpa using e⟩
    · rename_i e
      obtain ⟨h1, h2⟩ := ih h
      refine ⟨?_, h2⟩
      simp only [lookH]
      rw [if_neg ?_]
      · exact h1
      · intro e'
        subst e'
        rw [rho_fst _ _ v.1] at h2
        simp [h2] at e
theorem dropH_eq (hp : Hp) (i : Nat) : ∀ hs : List (Nat × Nat), dropH hp hs i = if i ∈ hs.map (·.1) then none else hp i
  | [] => by simp [dropH]
  | p :: r => by
    have ih := dropH_eq hp i r
    unfold dropH at ih ⊢
    simp only [List.foldr_cons, updH, List.map_cons, List.mem_cons]
    by_cases e : i = p.1
    · simp [e]
    · rw [if_neg e, ih]; simp only [e, false_or]
theorem outHp_eq (hp : Hp) (i : Nat) (hout : List (Nat × Nat × AO)) : outHp hp hs D c hout i = match who hs D c hout i with
    | some p => some ((rho hs D c p.1 p.2.1).2, p.2.2.ren (rho hs D c))
    | none => if i ∈ hs.map (·.1) then none else hp i := by
  induction hout with
  | nil => simp [outHp, who, dropH_eq]
  | cons q r ih =>
    unfold outHp at ih ⊢
    simp only [List.foldr_cons, updH]
    simp only [who, List.find?_cons] at ih ⊢
    by_cases e : i = (rho hs D c q.1 q.2.1).1
    · rw [if_pos e]
      have : ((rho hs D c q.1 q.2.1).1 == i) = true := by simp [e]
      rw [this]
    · rw [if_neg e, ih]
      have : ((rho hs D c q.1 q.2.1).1 == i) = false := by simpa using fun h => e h.symm
      rw [this]
theorem handOk_get {hp : Hp} {ρ : Nat → Nat → Nat × Nat} : ∀ {hs : List (Nat × Nat)} {hin : List AO}, handOk hp ρ hs hin → hin.length = hs.length ∧ (∀ (j : Nat) (p : Nat × Nat) (o : AO), hs[j]? = some p → hin[j]? = some o → hp p.1 = some (p.2, o.ren ρ))
  | [], [], _ => ⟨rfl, fun j p o h => by simp at h⟩
  | p :: hs, o :: hin, h => by
    obtain ⟨h1, h2⟩ := handOk_get h.2
    refine ⟨by simp [h1], fun j q u hq hu => ?_⟩
    cases j with
    | zero => simp at hq hu; subst hq; subst hu; exact h.1
    | succ j => exact h2 j q u (by simpa using hq) (by simpa using hu)
  | [], _ :: _, h => h.elim
  | _ :: _, [], h => h.elim
end
theorem lt_of_getq {α : Type} {l : List α} {i : Nat} {x : α} (h : l[i]? = some x) : i < l.length := by
  rcases Nat.lt_or_ge i l.length with h' | h'
  · exact h'
  · rw [List.getElem?_eq_none h'] at h; simp at h
section
variable {P : Program} [Tabs P] {G : Gh} {w : World} {c : Nat} {M : Nat → Prop} {hp : Hp}
theorem heap_drop (hH : Heap c M G hp w) (hs : List (Nat × Nat)) : Ext c G w ⟨G.S, fun i g => if i ∈ hs.map (·.1) then none else G.ob i g⟩ w ∧ Heap c M ⟨G.S, fun i g => if i ∈ hs.map (·.1) then none else G.ob i g⟩ (dropH hp hs) w := by
  have hE : Ext c G w ⟨G.S, fun i g => if i ∈ hs.map (·.1) then none else G.ob i g⟩ w := ⟨fun _ h => h, fun _ _ => rfl, fun _ _ h => h, fun id g ob _ ho => by
    simp only at ho
    split at ho
    · simp at ho
    · exact ho⟩
  refine ⟨hE, hH.lt, ?_, ?_, ?_, ?_⟩
  · intro id g ob ho
    simp only at ho
    rw [dropH_eq]
    split at ho
    · simp at ho
    · rename_i e; rw [if_neg e]; exact hH.live _ _ _ ho
  · intro id g nl cells ho
    rw [dropH_eq] at ho
    split at ho
    · simp at ho
    · exact hH.gl _ _ _ _ ho
  · intro id g id' g' b h1 h2
    simp only at h1 h2
    split at h1
    · simp at h1
    · split at h2
      · simp at h2
      · exact hH.inj _ _ _ _ _ h1 h2
  · intro id g nl cells ho
    rw [dropH_eq] at ho
    split at ho
    · simp at ho
    · rename_i e
      obtain ⟨ob, h1, h2, h3, h4⟩ := hH.row _ _ _ _ ho
      refine ⟨ob, by simp only; rw [if_neg e]; exact h1, h2, h3, fun b hb => ?_⟩
      obtain ⟨k1, k2, vs, k4, k3⟩ := h4 b hb
      exact ⟨k1, k2, vs, RdL.mono hE _ _ (hH.gl _ _ _ _ ho).2 k4, k3⟩
theorem heap_block (hH : Heap c M G hp w) {i g b : Nat} (h : G.ob i g = some (some b)) : b < w.heap.size ∧ ¬ G.S b ∧ M b := by
  obtain ⟨⟨nl, cells⟩, ho⟩ := hH.live _ _ _ h
  obtain ⟨ob, k1, _, _, k4⟩ := hH.row _ _ _ _ ho
  rw [h] at k1; cases k1
  obtain ⟨q1, q2, _, _, q3⟩ := k4 b rfl
  exact ⟨q3.lt, q1, q2⟩
def inG (S : Nat → Prop) (G : Gh) (hs : List (Nat × Nat)) : Gh := ⟨S, fun id g => if g = 0 ∧ handed hs.length id then (hs[id - 1000]?).bind fun p => G.ob p.1 p.2 else none⟩
def inM (G : Gh) (hs : List (Nat × Nat)) (b : Nat) : Prop := ∃ p ∈ hs, G.ob p.1 p.2 = some (some b)
def outG (G G' : Gh) (w : World) (hs : List (Nat × Nat)) (D c : Nat) (hout : List (Nat × Nat × AO)) : Gh :=
  ⟨fun b => G.S b ∨ (G'.S b ∧ (w.heap.size ≤ b ∨ inM G hs b)), fun i x => match who hs D c hout i with
    | some p => if x = (rho hs D c p.1 p.2.1).2 then G'.ob p.1 p.2.1 else none
    | none => if i ∈ hs.map (·.1) then none else G.ob i x⟩
theorem inG_ob {S : Nat → Prop} {hs : List (Nat × Nat)} {D : Nat} {id g : Nat} {ob : Option Nat} (h : (inG S G hs).ob id g = some ob) : ∃ p, g = 0 ∧ handed hs.length id ∧ hs[id - 1000]? = some p ∧ p ∈ hs ∧ G.ob p.1 p.2 = some ob ∧ rho hs D c id g = p := by
  simp only [inG] at h
  split at h
  · rename_i e
    obtain ⟨p, p1, p2, p3⟩ := rho_handed (D := D) (c := c) (g := g) e.2
    rw [p1] at h
    refine ⟨p, e.1, e.2, p1, p2, by simpa using h, ?_⟩
    rw [p3, if_pos e.1]
  · simp at h
theorem hcall_core {f : Nat} {vs : List Value} {insC : List AV} {hin : List AO} {out : AV} {hout : List (Nat × Nat × AO)} {k D : Nat} {hs : List (Nat × Nat)} {B : Bool} {S : Nat → Prop}
    (hT : TabOk P G.S w) (hH : Heap c M G hp w) (hMx : ∀ b, w.heap.size ≤ b → M b) (hc : HCon P f insC hin out hout k) (hn : (hs.map (·.1)).Nodup) (hD : ∀ p ∈ hs, p.1 < D) (hh : handOk hp (rho hs D c) hs hin)
    (hS1 : ∀ b, G.S b → S b) (hS2 : ∀ b, S b → G.S b ∨ ∃ i g, i ∉ hs.map (·.1) ∧ G.ob i g = some (some b)) (hB : B = false → ∀ b, S b → G.S b) (hB' : B = true → out.fo = true ∧ foH hout = true)
    (hrd : RdL (inG S G hs) w insC vs) :
    Calls P f vs.toArray w fun e w' => ∃ v, e = .returned v ∧ Res c M G w (ren (rho hs D c) out) (outHp hp hs D c hout) (c + k) v w' := by
  obtain ⟨c1, c2, hc⟩ := hc
  obtain ⟨hlen, hget⟩ := handOk_get hh
  have hgens : ∀ p ∈ hs, p.2 < c := by
    intro p hp'
    obtain ⟨j, hj, rfl⟩ := List.mem_iff_getElem.1 hp'
    have hj' : j < hin.length := by omega
    have := hget j _ _ (List.getElem?_eq_getElem hj) (List.getElem?_eq_getElem hj')
    cases ho : hin[j] with
    | row nl cells => rw [ho] at this; exact (hH.gl _ _ _ _ this).1
  have hSlt : ∀ b, S b → b < w.heap.size := fun b hb => (hS2 b hb).elim (hH.lt b) fun ⟨i, g, _, h⟩ => (heap_block hH h).1
  have hSno : ∀ b, S b → ∀ p ∈ hs, G.ob p.1 p.2 ≠ some (some b) := by
    intro b hb p hp' h
    rcases hS2 b hb with h' | ⟨i, g, h1, h2⟩
    · exact (heap_block hH h).2.1 h'
    · have := hH.inj _ _ _ _ _ h h2
      exact h1 (by rw [← this]; exact List.mem_map_of_mem hp')
  have hT' : TabOk P (inG S G hs).S w := hT.mono hS1 fun _ _ => rfl
  have hH0 : Heap 1 (inM G hs) (inG S G hs) (hin0 hin) w := by
    refine ⟨hSlt, ?_, ?_, ?_, ?_⟩
    · intro id g ob ho
      obtain ⟨p, rfl, h2, h3, h4, h5, _⟩ := inG_ob (c := c) (D := D) ho
      have hl : id - 1000 < hin.length := by have := h2.2; omega
      exact ⟨hin[id - 1000], by simp [hin0, h2.1, List.getElem?_eq_getElem hl]⟩
    · intro id g nl cells ho
      simp only [hin0] at ho
      split at ho
      · cases hx : hin[id - 1000]? with
        | none => rw [hx] at ho; simp at ho
        | some o =>
          rw [hx] at ho
          simp at ho
          obtain ⟨rfl, rfl⟩ := ho
          exact ⟨by omega, c2 nl cells (List.mem_of_getElem? hx)⟩
      · simp at ho
    · intro id g id' g' b h1 h2
      obtain ⟨p, rfl, p2, p3, p4, p5, _⟩ := inG_ob (c := c) (D := D) h1
      obtain ⟨q, rfl, q2, q3, q4, q5, _⟩ := inG_ob (c := c) (D := D) h2
      have := nodup_get hn p3 q3 (hH.inj _ _ _ _ _ p5 q5)
      have := p2.1; have := q2.1; omega
    · intro id g nl cells ho
      simp only [hin0] at ho
      split at ho
      · rename_i h1000
        cases hx : hin[id - 1000]? with
        | none => rw [hx] at ho; simp at ho
        | some o =>
          rw [hx] at ho
          simp at ho
          obtain ⟨rfl, rfl⟩ := ho
          have hhd : handed hs.length id := ⟨h1000, by rw [← hlen]; exact lt_of_getq hx⟩
          obtain ⟨p, p1, p2, p3⟩ := rho_handed (D := D) (c := c) (g := 0) hhd
          have hpp := hget _ _ _ p1 hx
          obtain ⟨ob, k1, k2, k3, k4⟩ := hH.row _ _ _ _ hpp
          refine ⟨ob, ?_, k2, fun e => renL_nil (k3 e), fun b hb => ?_⟩
          · simp only [inG]
            rw [if_pos (by exact ⟨trivial, hhd⟩), p1]
            exact k1
          · subst hb
            obtain ⟨q1, q2, us, q4, q3⟩ := k4 b rfl
            refine ⟨fun h => hSno b h p p2 k1, ⟨p, p2, k1⟩, us, ?_, q3⟩
            refine RdL.unren hS1 (fun id' g' ob' ho' => ?_) _ _ q4
            obtain ⟨r, _, _, _, _, r5, r6⟩ := inG_ob (c := c) (D := D) ho'
            rw [r6]; exact r5
      · simp at ho
  refine (hc w (inG S G hs) (inM G hs) vs hT' hH0 hrd).mono ?_
  rintro e w' ⟨v, G', rfl, hk, hE, hHo, hrv, hgl, hfr⟩
  refine ⟨v, rfl, outG G G' w hs D c hout, ?_⟩
  have hinM : ∀ b, inM G hs b → M b := fun b ⟨p, _, h⟩ => (heap_block hH h).2.2
  have hSM : ∀ b, G.S b → ¬ inM G hs b := fun b hb ⟨p, _, h⟩ => (heap_block hH h).2.1 hb
  have hE2 : Ext c G w (outG G G' w hs D c hout) w' := by
    refine ⟨fun b hb => .inl hb, fun b hb => hk.block b (hH.lt b hb) (hSM b hb), hE.shape, fun i x ob hx ho => ?_⟩
    simp only [outG] at ho
    cases hw : who hs D c hout i with
    | some p =>
      rw [hw] at ho
      simp only at ho
      split at ho
      · rename_i e
        subst e
        obtain ⟨h1, rfl⟩ := who_some hn hD hw
        by_cases hhd : handed hs.length p.1
        · obtain ⟨q, q1, q2, q3⟩ := rho_handed (D := D) (c := c) (g := p.2.1) hhd
          rw [q3] at hx ⊢
          simp only at hx ⊢
          by_cases e0 : p.2.1 = 0
          · rw [if_pos e0]
            rw [e0] at ho
            have := hE.ob _ _ _ (by omega) ho
            simp only [inG] at this
            rw [if_pos (by exact ⟨trivial, hhd⟩), q1] at this
            exact this
          · rw [if_neg e0] at hx; omega
        · rw [rho_new hhd] at hx; simp only at hx; omega
      · simp at ho
    | none =>
      rw [hw] at ho
      simp only at ho
      split at ho
      · simp at ho
      · exact ho
  have hfwd : ∀ id g ob, (outG G G' w hs D c hout).ob (rho hs D c id g).1 (rho hs D c id g).2 = some ob → G'.ob id g = some ob := by
    intro id g ob ho
    simp only [outG] at ho
    cases hw : who hs D c hout (rho hs D c id g).1 with
    | some p =>
      rw [hw] at ho
      simp only at ho
      obtain ⟨h1, h2⟩ := who_some hn hD hw
      have := rho_inj hn hD h2
      subst this
      split at ho
      · rename_i e
        have := rho_gen hgens e
        rw [this]; exact ho
      · simp at ho
    | none =>
      rw [hw] at ho
      simp only at ho
      split at ho
      · simp at ho
      · rename_i hni
        exfalso
        by_cases hhd : handed hs.length id
        · obtain ⟨q, q1, q2, q3⟩ := rho_handed (D := D) (c := c) (g := g) hhd
          rw [q3] at hni
          exact hni (List.mem_map.2 ⟨q, q2, rfl⟩)
        · rw [rho_new hhd] at ho
          obtain ⟨⟨nl, cells⟩, ho'⟩ := hH.live _ _ _ ho
          have := (hH.gl _ _ _ _ ho').1
          omega
  have hSf : B = false → ∀ b, G'.S b → (outG G G' w hs D c hout).S b := fun e b hb => (hfr b hb).elim (fun h => .inl (hB e b h)) fun h => .inr ⟨hb, h⟩
  have hglc : ∀ id g, g < k → (rho hs D c id g).2 < c + k := fun id g h => rho_lt hgens h
  have hcb : ∀ id g b, G'.ob id g = some (some b) → ¬ G'.S b ∧ (w.heap.size ≤ b ∨ inM G hs b) := fun id g b h => ⟨(heap_block hHo h).2.1, (heap_block hHo h).2.2⟩
  have hother : ∀ i x b, i ∉ hs.map (·.1) → G.ob i x = some (some b) → b < w.heap.size ∧ ¬ inM G hs b := by
    intro i x b hi h
    refine ⟨(heap_block hH h).1, fun ⟨p, hp', h'⟩ => ?_⟩
    have := hH.inj _ _ _ _ _ h h'
    exact hi (by rw [this]; exact List.mem_map_of_mem hp')
  have hH2 : Heap (c + k) M (outG G G' w hs D c hout) (outHp hp hs D c hout) w' := by
    refine ⟨?_, ?_, ?_, ?_, ?_⟩
    · rintro b (hb | ⟨hb, _⟩)
      · exact Nat.lt_of_lt_of_le (hH.lt b hb) hk.size
      · exact hHo.lt b hb
    · intro i x ob ho
      simp only [outG] at ho
      rw [outHp_eq]
      cases hw : who hs D c hout i with
      | some p =>
        rw [hw] at ho
        simp only at ho ⊢
        split at ho
        · rename_i e; subst e; exact ⟨_, rfl⟩
        · simp at ho
      | none =>
        rw [hw] at ho
        simp only at ho ⊢
        split at ho
        · simp at ho
        · rename_i e; rw [if_neg e]; exact hH.live _ _ _ ho
    · intro i x nl cells ho
      rw [outHp_eq] at ho
      cases hw : who hs D c hout i with
      | some p =>
        rw [hw] at ho
        obtain ⟨h1, rfl⟩ := who_some hn hD hw
        obtain ⟨id, g, o⟩ := p
        cases o with
        | row nl' cells' =>
          simp only [AO.ren, Option.some.injEq, Prod.mk.injEq, AO.row.injEq] at ho
          obtain ⟨rfl, rfl, rfl⟩ := ho
          obtain ⟨q1, q2⟩ := hHo.gl _ _ _ _ h1
          exact ⟨hglc _ _ q1, glL_ren hglc _ q2⟩
      | none =>
        rw [hw] at ho
        simp only at ho
        split at ho
        · simp at ho
        · obtain ⟨q1, q2⟩ := hH.gl _ _ _ _ ho
          exact ⟨by omega, glL_mono (by omega) _ q2⟩
    · intro i x i' x' b h1 h2
      simp only [outG] at h1 h2
      cases hw : who hs D c hout i with
      | some p =>
        rw [hw] at h1
        simp only at h1
        split at h1
        · obtain ⟨_, rfl⟩ := who_some hn hD hw
          cases hw' : who hs D c hout i' with
          | some q =>
            rw [hw'] at h2
            simp only at h2
            split at h2
            · obtain ⟨_, rfl⟩ := who_some hn hD hw'
              rw [hHo.inj _ _ _ _ _ h1 h2]
              exact rho_fst _ _ _
            · simp at h2
          | none =>
            rw [hw'] at h2
            simp only at h2
            split at h2
            · simp at h2
            · rename_i e
              obtain ⟨k1, k2⟩ := hother _ _ _ e h2
              rcases (hcb _ _ _ h1).2 with h | h
              · omega
              · exact absurd h k2
        · simp at h1
      | none =>
        rw [hw] at h1
        simp only at h1
        split at h1
        · simp at h1
        · rename_i e
          obtain ⟨k1, k2⟩ := hother _ _ _ e h1
          cases hw' : who hs D c hout i' with
          | some q =>
            rw [hw'] at h2
            simp only at h2
            split at h2
            · rcases (hcb _ _ _ h2).2 with h | h
              · omega
              · exact absurd h k2
            · simp at h2
          | none =>
            rw [hw'] at h2
            simp only at h2
            split at h2
            · simp at h2
            · exact hH.inj _ _ _ _ _ h1 h2
    · intro i x nl cells ho
      rw [outHp_eq] at ho
      cases hw : who hs D c hout i with
      | some p =>
        rw [hw] at ho
        obtain ⟨h1, rfl⟩ := who_some hn hD hw
        obtain ⟨id, g, o⟩ := p
        cases o with
        | row nl' cells' =>
          simp only [AO.ren, Option.some.injEq, Prod.mk.injEq, AO.row.injEq] at ho
          obtain ⟨rfl, rfl, rfl⟩ := ho
          obtain ⟨ob, k1, k2, k3, k4⟩ := hHo.row _ _ _ _ h1
          refine ⟨ob, ?_, k2, fun e => by rw [k3 e]; rfl, fun b hb => ?_⟩
          · simp only [outG]
            rw [hw]
            simp only [if_true]
            exact k1
          · subst hb
            obtain ⟨q1, q2, us, q4, q3⟩ := k4 b rfl
            refine ⟨?_, q2.elim (hMx b) (hinM b), us, ?_, q3⟩
            · rintro (h | h)
              · exact q1 (hE.S _ (hS1 _ h))
              · exact q1 h.1
            · exact RdL.ren (B := B) hSf hfwd _ _ (fun e => foH_mem (hB' e).2 (lookH_mem h1)) q4
      | none =>
        rw [hw] at ho
        simp only at ho
        split at ho
        · simp at ho
        · rename_i e
          obtain ⟨ob, k1, k2, k3, k4⟩ := hH.row _ _ _ _ ho
          refine ⟨ob, ?_, k2, k3, fun b hb => ?_⟩
          · simp only [outG]
            rw [hw]
            simp only
            rw [if_neg e]; exact k1
          · subst hb
            obtain ⟨q1, q2, us, q4, q3⟩ := k4 b rfl
            obtain ⟨j1, j2⟩ := hother _ _ _ e k1
            refine ⟨?_, q2, us, RdL.mono hE2 _ _ (hH.gl _ _ _ _ ho).2 q4, by rw [hk.block b j1 j2]; exact q3⟩
            rintro (h | h)
            · exact q1 h
            · exact h.2.elim (fun h => by omega) j2
  refine ⟨hE2, hH2, Rd.ren (B := B) hSf hfwd _ _ (fun e => (hB' e).1) hrv, gl_ren hglc _ hgl, by omega, hk.mono (Nat.le_refl _) (fun b _ h => hinM b h), ?_⟩
  rintro b (hb | hb)
  · exact .inl hb
  · exact .inr (hb.2.elim .inl fun h => .inr (hinM b h))
theorem argsB_sound {hs : List (Nat × Nat)} {D : Nat} (hH : Heap c M G hp w) : ∀ {ins insC : List AV} {vs : List Value}, argsB (dropH hp hs) (rho hs D c) ins insC → AV.gl.glL c ins → RdL G w ins vs →
    RdL (inG (GF ⟨G.S, fun i g => if i ∈ hs.map (·.1) then none else G.ob i g⟩).S G hs) w insC vs
  | [], [], vs, _, _, hr => by simpa [RdL] using hr
  | x :: ins, y :: insC, vs, h, hg, hr => by
    simp only [RdL] at hr ⊢
    obtain ⟨v, r, rfl, h1, h2⟩ := hr
    simp only [AV.gl.glL] at hg
    refine ⟨v, r, rfl, ?_, argsB_sound hH h.2 hg.2 h2⟩
    rcases h.1 with rfl | ⟨hf, hfree⟩
    · refine Rd.unren (G := G) (fun b hb => Or.inl hb) (fun id g ob ho => ?_) _ _ h1
      obtain ⟨r, _, _, _, _, r5, r6⟩ := inG_ob (c := c) (D := D) ho
      rw [r6]; exact r5
    · obtain ⟨hE, hH'⟩ := heap_drop hH hs
      have := frz_sound hH' x v hg.1 (Rd.mono hE x v hg.1 h1)
      rw [hf] at this
      exact Rd.of_free (G := GF ⟨G.S, fun i g => if i ∈ hs.map (fun p : Nat × Nat => p.1) then none else G.ob i g⟩) (G' := inG (GF ⟨G.S, fun i g => if i ∈ hs.map (fun p : Nat × Nat => p.1) then none else G.ob i g⟩).S G hs) (fun _ h => h) (fun _ _ => rfl) _ _ hfree this
  | [], _ :: _, _, h, _, _ => h.elim
  | _ :: _, [], _, h, _, _ => h.elim
theorem hcall_sound {f : Nat} {ins : List AV} {vs : List Value} {r : AV} {hp' : Hp} {c' : Nat} (hT : TabOk P G.S w) (hH : Heap c M G hp w) (hMx : ∀ b, w.heap.size ≤ b → M b) (hg : AV.gl.glL c ins) (hr : RdL G w ins vs)
    (h : HCallOk P f ins hp c r hp' c') : Calls P f vs.toArray w fun e w' => ∃ v, e = .returned v ∧ Res c M G w r hp' c' v w' := by
  rcases h with h | h
  case inr => exact fcall_sound hT hH hMx hg hr h
  obtain ⟨hs, D, insC, hin, out, hout, k, hc, hn, hD, hh, hargs, rfl, rfl, rfl⟩ := h
  rcases hargs with rfl | ⟨ha, ho1, ho2⟩
  · refine hcall_core (B := false) (S := G.S) hT hH hMx hc hn hD hh (fun _ h => h) (fun _ h => .inl h) (fun _ _ h => h) (fun h => by simp at h) ?_
    refine RdL.unren (G := G) (G' := inG G.S G hs) (ρ := rho hs D c) (fun b hb => hb) (fun id g ob ho => ?_) _ _ hr
    obtain ⟨r, _, _, _, _, r5, r6⟩ := inG_ob (c := c) (D := D) ho
    rw [r6]; exact r5
  · refine hcall_core (B := true) hT hH hMx hc hn hD hh (fun _ h => .inl h) ?_ (fun h => by simp at h) (fun _ => ⟨ho1, ho2⟩) (argsB_sound hH ha hg hr)
    rintro b (hb | ⟨i, g, hb⟩)
    · exact .inl hb
    · simp only at hb
      split at hb
      · simp at hb
      · rename_i e; exact .inr ⟨i, g, e, hb⟩
end
end Go.Proofs.YtbmmdkbinlnogaaDoor.Aw
