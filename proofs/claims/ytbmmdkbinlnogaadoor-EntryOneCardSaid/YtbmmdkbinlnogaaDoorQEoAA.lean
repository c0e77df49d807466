/- Parts of the proofs of Eo. -/
import Derived.Calls
import Derived.Below
import Derived.Orders
import Derived.KernelRfl
import Derived.Laws.Sem
namespace Go.Proofs.YtbmmdkbinlnogaaDoor.Aw
open Go
set_option linter.unusedSimpArgs false
set_option linter.unusedVariables false
inductive AV where
  | junk
  | sc (v : Value)
  | agg (xs : List AV)
  | tup (xs : List AV)
  | sl (nl : Bool) (es : Option Nat) (xs : List AV)
  | fp (y : AV) (off : Nat)
  | own (id g : Nat) (es : Option Nat) (lo n : Nat)
  | op (id g off : Nat)
  | mp (id g : Nat)
  | clo (f : Nat) (caps : List AV)
  deriving Inhabited
inductive AO where
  | row (nl : Bool) (cells : List AV)
  deriving Inhabited
abbrev Hp := Nat → Option (Nat × AO)
def esz : Option Nat → Nat
  | none => 1
  | some s => s
def shp : Option Nat → Value → Prop
  | none, v => v.oneCell' = true
  | some s, v => ∃ cs : List Value, v = .agg cs.toArray ∧ cs.length = s ∧ ∀ u ∈ cs, u.oneCell' = true
structure Gh where
  S : Nat → Prop
  ob : Nat → Nat → Option (Option Nat)
def HoldsAt (w : World) (b o : Nat) (cs : List Value) : Prop := ∀ j v, cs[j]? = some v → w.cell? ⟨b, o + j, none⟩ = some v
mutual
def Rd (G : Gh) (w : World) : AV → Value → Prop
  | .junk, _ => True
  | .sc v, x => x = v
  | .agg xs, x => ∃ cs : List Value, x = .agg cs.toArray ∧ RdL G w xs cs ∧ ∀ u ∈ cs, u.oneCell' = true
  | .tup xs, x => ∃ cs : List Value, x = .tuple cs.toArray ∧ RdL G w xs cs
  | .sl nl es xs, x => ∃ base len cap, ∃ vs : List Value, x = .slice base len cap ∧ len = vs.length ∧ len ≤ cap ∧ RdL G w xs vs ∧ (nl = true ↔ base = none) ∧ (base = none → cap = 0) ∧
      ∀ a, base = some a → vs ≠ [] → a.spot = none ∧ G.S a.block ∧ ∀ i v, vs[i]? = some v → shp es v ∧ HoldsAt w a.block (a.off + i * esz es) v.cells.toList
  | .fp y off, x => ∃ v b o, Rd G w y v ∧ x = .pointer (some ⟨b, o + off, none⟩) ∧ G.S b ∧ HoldsAt w b o v.cells.toList
  | .own id g es lo n, x => (x = .slice none 0 0 ∧ n = 0 ∧ lo = 0 ∨ ∃ b cap o, x = .slice (some ⟨b, o, none⟩) n cap ∧ n ≤ cap ∧ (o = lo ∨ cap = 0)) ∧ ∀ ob, G.ob id g = some ob → match ob with
      | none => x = .slice none 0 0 ∧ n = 0 ∧ lo = 0
      | some b => ∃ cap o E k, x = .slice (some ⟨b, o, none⟩) n cap ∧ n ≤ cap ∧ (o = lo ∨ cap = 0) ∧ w.shape? b = some (E, k) ∧ lo + cap * esz es ≤ k
  | .op id g off, x => (∃ b, x = .pointer (some ⟨b, off, none⟩)) ∧ ∀ ob, G.ob id g = some ob → ∃ b, ob = some b ∧ x = .pointer (some ⟨b, off, none⟩) ∧ ∃ p, w.shape? b = some p
  | .mp id g, x => (∃ b, x = .map (some b)) ∧ ∀ ob, G.ob id g = some ob → ∃ b, ob = some b ∧ x = .map (some b)
  | .clo f caps, x => ∃ vs : List Value, x = .func (.func f) #[] vs.toArray ∧ RdL G w caps vs
def RdL (G : Gh) (w : World) : List AV → List Value → Prop
  | [], vs => vs = []
  | x :: xs, vs => ∃ v r, vs = v :: r ∧ Rd G w x v ∧ RdL G w xs r
end
def AV.gl (c : Nat) : AV → Prop
  | .junk | .sc _ => True
  | .agg xs | .tup xs | .sl _ _ xs => glL c xs
  | .fp y _ => y.gl c
  | .own _ g _ _ _ | .op _ g _ | .mp _ g => g < c
  | .clo _ xs => glL c xs
where glL (c : Nat) : List AV → Prop
  | [] => True
  | x :: xs => x.gl c ∧ glL c xs
def AV.free : AV → Bool
  | .junk | .sc _ => true
  | .agg xs | .tup xs | .sl _ _ xs => freeL xs
  | .fp y _ => y.free
  | .own _ _ _ _ _ | .op _ _ _ | .mp _ _ => false
  | .clo _ xs => freeL xs
where freeL : List AV → Bool
  | [] => true
  | x :: xs => x.free && freeL xs
theorem RdL.length {G : Gh} {w : World} : ∀ {xs : List AV} {vs : List Value}, RdL G w xs vs → vs.length = xs.length
  | [], vs, h => by simp only [RdL] at h; simp [h]
  | x :: xs, vs, h => by
    simp only [RdL] at h
    obtain ⟨v, r, rfl, _, h⟩ := h
    simp [RdL.length h]
theorem RdL.get {G : Gh} {w : World} : ∀ {xs : List AV} {vs : List Value}, RdL G w xs vs → ∀ (i : Nat) (x : AV), xs[i]? = some x → ∃ v, vs[i]? = some v ∧ Rd G w x v
  | [], _, _, i, x, hx => by simp at hx
  | y :: ys, vs, h, i, x, hx => by
    simp only [RdL] at h
    obtain ⟨v, r, rfl, h1, h2⟩ := h
    cases i with
    | zero => simp at hx; subst hx; exact ⟨v, by simp, h1⟩
    | succ i => simp at hx; simpa using RdL.get h2 i x hx
theorem RdL.of_get {G : Gh} {w : World} : ∀ {xs : List AV} {vs : List Value}, vs.length = xs.length → (∀ (i : Nat) (x : AV) (v : Value), xs[i]? = some x → vs[i]? = some v → Rd G w x v) → RdL G w xs vs
  | [], vs, hl, _ => by simp only [RdL]; exact List.eq_nil_of_length_eq_zero hl
  | x :: xs, [], hl, _ => by simp at hl
  | x :: xs, v :: vs, hl, h => by
    simp only [RdL]
    exact ⟨v, vs, rfl, h 0 x v (by simp) (by simp), RdL.of_get (by simpa using hl) fun i y u hy hu => h (i + 1) y u (by simpa using hy) (by simpa using hu)⟩
theorem RdL.append {G : Gh} {w : World} {xs ys : List AV} {vs us : List Value} (h : RdL G w xs vs) (h' : RdL G w ys us) : RdL G w (xs ++ ys) (vs ++ us) := by
  induction xs generalizing vs with
  | nil => simp only [RdL] at h; subst h; simpa using h'
  | cons x xs ih =>
    simp only [RdL] at h
    obtain ⟨v, r, rfl, h1, h2⟩ := h
    simp only [List.cons_append, RdL]
    exact ⟨v, _, rfl, h1, ih h2⟩
theorem RdL.take {G : Gh} {w : World} {xs : List AV} {vs : List Value} (n : Nat) (h : RdL G w xs vs) : RdL G w (xs.take n) (vs.take n) :=
  RdL.of_get (by simp [h.length]) fun i x v hx hv => by
    simp only [List.getElem?_take] at hx hv
    split at hx <;> simp_all
    obtain ⟨u, hu, hr⟩ := h.get i x hx
    rw [hv] at hu; cases hu; exact hr
theorem RdL.drop {G : Gh} {w : World} {xs : List AV} {vs : List Value} (n : Nat) (h : RdL G w xs vs) : RdL G w (xs.drop n) (vs.drop n) :=
  RdL.of_get (by simp [h.length]) fun i x v hx hv => by
    simp only [List.getElem?_drop] at hx hv
    obtain ⟨u, hu, hr⟩ := h.get _ x hx
    rw [hv] at hu; cases hu; exact hr
theorem RdL.set {G : Gh} {w : World} {xs : List AV} {vs : List Value} {n : Nat} {x : AV} {v : Value} (h : RdL G w xs vs) (hx : Rd G w x v) : RdL G w (xs.set n x) (vs.set n v) :=
  RdL.of_get (by simp [h.length]) fun i y u hy hu => by
    simp only [List.getElem?_set] at hy hu
    split at hy
    · rename_i e
      rw [if_pos e] at hu
      split at hy <;> simp_all
    · rename_i e
      rw [if_neg e] at hu
      obtain ⟨z, hz, hr⟩ := h.get _ y hy
      rw [hu] at hz; cases hz; exact hr
structure Ext (c : Nat) (G : Gh) (w : World) (G' : Gh) (w' : World) : Prop where
  S : ∀ b, G.S b → G'.S b
  cells : ∀ b, G.S b → w'.heap[b]? = w.heap[b]?
  shape : ∀ b p, w.shape? b = some p → w'.shape? b = some p
  ob : ∀ id g ob, g < c → G'.ob id g = some ob → G.ob id g = some ob
theorem Ext.refl (c : Nat) (G : Gh) (w : World) : Ext c G w G w := ⟨fun _ h => h, fun _ _ => rfl, fun _ _ h => h, fun _ _ _ _ h => h⟩
theorem Ext.trans {c c' : Nat} (hc : c ≤ c') {G G₁ G₂ : Gh} {w w₁ w₂ : World} (h : Ext c G w G₁ w₁) (h' : Ext c' G₁ w₁ G₂ w₂) : Ext c G w G₂ w₂ :=
  ⟨fun b hb => h'.S b (h.S b hb), fun b hb => (h'.cells b (h.S b hb)).trans (h.cells b hb), fun b p hp => h'.shape b p (h.shape b p hp),
    fun id g ob hg ho => h.ob id g ob hg (h'.ob id g ob (Nat.lt_of_lt_of_le hg hc) ho)⟩
theorem cell?_eq_of_block {w w' : World} {b : Nat} (h : w'.heap[b]? = w.heap[b]?) (o : Nat) : w'.cell? ⟨b, o, none⟩ = w.cell? ⟨b, o, none⟩ := by
  simp only [World.cell?, h]
theorem HoldsAt.mono {w w' : World} {b o : Nat} {cs : List Value} (h : HoldsAt w b o cs) (hb : w'.heap[b]? = w.heap[b]?) : HoldsAt w' b o cs :=
  fun j v hv => by rw [cell?_eq_of_block hb]; exact h j v hv
mutual
theorem Rd.mono {c : Nat} {G G' : Gh} {w w' : World} (h : Ext c G w G' w') : ∀ (x : AV) (v : Value), x.gl c → Rd G w x v → Rd G' w' x v
  | .junk, _, _, _ => by simp [Rd]
  | .sc u, v, _, hr => by simpa [Rd] using hr
  | .agg xs, v, hg, hr => by
    simp only [Rd] at hr ⊢
    obtain ⟨cs, rfl, hr, h1⟩ := hr
    exact ⟨cs, rfl, RdL.mono h xs cs (by simpa [AV.gl] using hg) hr, h1⟩
  | .tup xs, v, hg, hr => by
    simp only [Rd] at hr ⊢
    obtain ⟨cs, rfl, hr⟩ := hr
    exact ⟨cs, rfl, RdL.mono h xs cs (by simpa [AV.gl] using hg) hr⟩
  | .sl nl es xs, v, hg, hr => by
    simp only [Rd] at hr ⊢
    obtain ⟨base, len, cap, vs, rfl, h1, h2, h3, h4, h5, h6⟩ := hr
    refine ⟨base, len, cap, vs, rfl, h1, h2, RdL.mono h xs vs (by simpa [AV.gl] using hg) h3, h4, h5, fun a ha hne => ?_⟩
    obtain ⟨k1, k2, k3⟩ := h6 a ha hne
    exact ⟨k1, h.S _ k2, fun i v hv => ⟨(k3 i v hv).1, (k3 i v hv).2.mono (h.cells _ k2)⟩⟩
  | .fp y off, v, hg, hr => by
    simp only [Rd] at hr ⊢
    obtain ⟨u, b, o, h1, rfl, h2, h3⟩ := hr
    exact ⟨u, b, o, Rd.mono h y u (by simpa [AV.gl] using hg) h1, rfl, h.S _ h2, h3.mono (h.cells _ h2)⟩
  | .own id g es lo n, v, hg, hr => by
    simp only [Rd] at hr ⊢
    obtain ⟨hr0, hr⟩ := hr
    refine ⟨hr0, ?_⟩
    intro ob hob
    have := hr ob (h.ob id g ob (by simpa [AV.gl] using hg) hob)
    cases ob with
    | none => exact this
    | some b =>
      obtain ⟨cap, o, E, k, h1, h2, h3, h4, h5⟩ := this
      exact ⟨cap, o, E, k, h1, h2, h3, h.shape _ _ h4, h5⟩
  | .op id g off, v, hg, hr => by
    simp only [Rd] at hr ⊢
    obtain ⟨hr0, hr⟩ := hr
    refine ⟨hr0, ?_⟩
    intro ob hob
    obtain ⟨b, k1, k2, p, k3⟩ := hr ob (h.ob id g ob (by simpa [AV.gl] using hg) hob)
    exact ⟨b, k1, k2, p, h.shape _ _ k3⟩
  | .mp id g, v, hg, hr => by
    simp only [Rd] at hr ⊢
    exact ⟨hr.1, fun ob hob => hr.2 ob (h.ob id g ob (by simpa [AV.gl] using hg) hob)⟩
  | .clo f xs, v, hg, hr => by
    simp only [Rd] at hr ⊢
    obtain ⟨cs, rfl, hr⟩ := hr
    exact ⟨cs, rfl, RdL.mono h xs cs (by simpa [AV.gl] using hg) hr⟩
theorem RdL.mono {c : Nat} {G G' : Gh} {w w' : World} (h : Ext c G w G' w') : ∀ (xs : List AV) (vs : List Value), AV.gl.glL c xs → RdL G w xs vs → RdL G' w' xs vs
  | [], vs, _, hr => by simpa [RdL] using hr
  | x :: xs, vs, hg, hr => by
    simp only [RdL] at hr ⊢
    obtain ⟨v, r, rfl, h1, h2⟩ := hr
    simp only [AV.gl.glL] at hg
    exact ⟨v, r, rfl, Rd.mono h x v hg.1 h1, RdL.mono h xs r hg.2 h2⟩
end
mutual
theorem gl_mono {c c' : Nat} (hc : c ≤ c') : ∀ x : AV, x.gl c → x.gl c'
  | .junk, _ => by simp [AV.gl]
  | .sc _, _ => by simp [AV.gl]
  | .agg xs, h => by simp only [AV.gl] at h ⊢; exact glL_mono hc xs h
  | .tup xs, h => by simp only [AV.gl] at h ⊢; exact glL_mono hc xs h
  | .sl _ _ xs, h => by simp only [AV.gl] at h ⊢; exact glL_mono hc xs h
  | .fp y _, h => by simp only [AV.gl] at h ⊢; exact gl_mono hc y h
  | .own _ _ _ _ _, h => by simp only [AV.gl] at h ⊢; omega
  | .op _ _ _, h => by simp only [AV.gl] at h ⊢; omega
  | .mp _ _, h => by simp only [AV.gl] at h ⊢; omega
  | .clo _ xs, h => by simp only [AV.gl] at h ⊢; exact glL_mono hc xs h
theorem glL_mono {c c' : Nat} (hc : c ≤ c') : ∀ xs : List AV, AV.gl.glL c xs → AV.gl.glL c' xs
  | [], _ => by simp [AV.gl.glL]
  | x :: xs, h => by simp only [AV.gl.glL] at h ⊢; exact ⟨gl_mono hc x h.1, glL_mono hc xs h.2⟩
end
theorem glL_iff {c : Nat} {xs : List AV} : AV.gl.glL c xs ↔ ∀ x ∈ xs, x.gl c := by
  induction xs with
  | nil => simp [AV.gl.glL]
  | cons x xs ih => simp [AV.gl.glL, ih]
theorem freeL_iff {xs : List AV} : AV.free.freeL xs = true ↔ ∀ x ∈ xs, x.free = true := by
  induction xs with
  | nil => simp [AV.free.freeL]
  | cons x xs ih => simp [AV.free.freeL, ih]
mutual
theorem gl_of_free (c : Nat) : ∀ x : AV, x.free = true → x.gl c
  | .junk, _ => by simp [AV.gl]
  | .sc _, _ => by simp [AV.gl]
  | .agg xs, h => by simp only [AV.gl, AV.free] at h ⊢; exact glL_of_free c xs h
  | .tup xs, h => by simp only [AV.gl, AV.free] at h ⊢; exact glL_of_free c xs h
  | .sl _ _ xs, h => by simp only [AV.gl, AV.free] at h ⊢; exact glL_of_free c xs h
  | .fp y _, h => by simp only [AV.gl, AV.free] at h ⊢; exact gl_of_free c y h
  | .own _ _ _ _ _, h => by simp [AV.free] at h
  | .op _ _ _, h => by simp [AV.free] at h
  | .mp _ _, h => by simp [AV.free] at h
  | .clo _ xs, h => by simp only [AV.gl, AV.free] at h ⊢; exact glL_of_free c xs h
theorem glL_of_free (c : Nat) : ∀ xs : List AV, AV.free.freeL xs = true → AV.gl.glL c xs
  | [], _ => by simp [AV.gl.glL]
  | x :: xs, h => by simp only [AV.gl.glL, AV.free.freeL, Bool.and_eq_true] at h ⊢; exact ⟨gl_of_free c x h.1, glL_of_free c xs h.2⟩
end
mutual
theorem Rd.of_free {G G' : Gh} {w w' : World} (hS : ∀ b, G.S b → G'.S b) (hc : ∀ b, G.S b → w'.heap[b]? = w.heap[b]?) : ∀ (x : AV) (v : Value), x.free = true → Rd G w x v → Rd G' w' x v
  | .junk, _, _, _ => by simp [Rd]
  | .sc u, v, _, hr => by simpa [Rd] using hr
  | .agg xs, v, hg, hr => by
    simp only [Rd] at hr ⊢
    obtain ⟨cs, rfl, hr, h1⟩ := hr
    exact ⟨cs, rfl, RdL.of_free hS hc xs cs (by simpa [AV.free] using hg) hr, h1⟩
  | .tup xs, v, hg, hr => by
    simp only [Rd] at hr ⊢
    obtain ⟨cs, rfl, hr⟩ := hr
    exact ⟨cs, rfl, RdL.of_free hS hc xs cs (by simpa [AV.free] using hg) hr⟩
  | .sl nl es xs, v, hg, hr => by
    simp only [Rd] at hr ⊢
    obtain ⟨base, len, cap, vs, rfl, h1, h2, h3, h4, h5, h6⟩ := hr
    refine ⟨base, len, cap, vs, rfl, h1, h2, RdL.of_free hS hc xs vs (by simpa [AV.free] using hg) h3, h4, h5, fun a ha hne => ?_⟩
    obtain ⟨k1, k2, k3⟩ := h6 a ha hne
    exact ⟨k1, hS _ k2, fun i v hv => ⟨(k3 i v hv).1, (k3 i v hv).2.mono (hc _ k2)⟩⟩
  | .fp y off, v, hg, hr => by
    simp only [Rd] at hr ⊢
    obtain ⟨u, b, o, h1, rfl, h2, h3⟩ := hr
    exact ⟨u, b, o, Rd.of_free hS hc y u (by simpa [AV.free] using hg) h1, rfl, hS _ h2, h3.mono (hc _ h2)⟩
  | .own _ _ _ _ _, _, hg, _ => by simp [AV.free] at hg
  | .op _ _ _, _, hg, _ => by simp [AV.free] at hg
  | .mp _ _, _, hg, _ => by simp [AV.free] at hg
  | .clo f xs, v, hg, hr => by
    simp only [Rd] at hr ⊢
    obtain ⟨cs, rfl, hr⟩ := hr
    exact ⟨cs, rfl, RdL.of_free hS hc xs cs (by simpa [AV.free] using hg) hr⟩
theorem RdL.of_free {G G' : Gh} {w w' : World} (hS : ∀ b, G.S b → G'.S b) (hc : ∀ b, G.S b → w'.heap[b]? = w.heap[b]?) : ∀ (xs : List AV) (vs : List Value), AV.free.freeL xs = true → RdL G w xs vs → RdL G' w' xs vs
  | [], vs, _, hr => by simpa [RdL] using hr
  | x :: xs, vs, hg, hr => by
    simp only [RdL] at hr ⊢
    obtain ⟨v, r, rfl, h1, h2⟩ := hr
    simp only [AV.free.freeL, Bool.and_eq_true] at hg
    exact ⟨v, r, rfl, Rd.of_free hS hc x v hg.1 h1, RdL.of_free hS hc xs r hg.2 h2⟩
end
structure Keep (n : Nat) (M : Nat → Prop) (w w' : World) : Prop where
  os : w'.os = w.os
  tape : w'.tape = w.tape
  output : w'.output = w.output
  size : w.heap.size ≤ w'.heap.size
  block : ∀ k, k < n → ¬ M k → w'.heap[k]? = w.heap[k]?
theorem Keep.refl (n : Nat) (M : Nat → Prop) (w : World) : Keep n M w w := ⟨rfl, rfl, rfl, Nat.le_refl _, fun _ _ _ => rfl⟩
theorem Keep.trans {n : Nat} {M : Nat → Prop} {a b c : World} (h : Keep n M a b) (k : Keep n M b c) : Keep n M a c :=
  ⟨k.os.trans h.os, k.tape.trans h.tape, k.output.trans h.output, Nat.le_trans h.size k.size, fun i hi hm => (k.block i hi hm).trans (h.block i hi hm)⟩
theorem Keep.below {n : Nat} {w w' : World} (h : Keep n (fun _ => False) w w') : Go.RowKit.Below n w w' := ⟨h.os, h.tape, h.output, h.size, fun k hk => h.block k hk (fun h => h)⟩
theorem Keep.mono {n n' : Nat} {M M' : Nat → Prop} {w w' : World} (h : Keep n M w w') (hn : n' ≤ n) (hM : ∀ b, b < n' → M b → M' b) : Keep n' M' w w' :=
  ⟨h.os, h.tape, h.output, h.size, fun k hk hm => h.block k (Nat.lt_of_lt_of_le hk hn) (fun hh => hm (hM k hk hh))⟩
def blkV (es : List MapEntry) : Value := .tuple (es.map fun e => Value.tuple #[e.key, e.val]).toArray
def Blk (o : Option Obj) (vs : List Value) : Prop :=
  (∃ cs E, o = some (Obj.cells cs E (0, 0)) ∧ (∀ (j : Nat) (v : Value), vs[j]? = some v → cs[j]? = some v) ∧ ∀ v ∈ vs, v.oneCell' = true) ∨
    ∃ es ck, o = some (Obj.map es ck) ∧ (vs = [blkV es.toList] ∨ vs = []) ∧ es.toList.Pairwise fun x y => x.key ≠ y.key
structure Heap (c : Nat) (M : Nat → Prop) (G : Gh) (hp : Hp) (w : World) : Prop where
  lt : ∀ b, G.S b → b < w.heap.size
  live : ∀ id g ob, G.ob id g = some ob → ∃ o, hp id = some (g, o)
  gl : ∀ id g nl cells, hp id = some (g, .row nl cells) → g < c ∧ AV.gl.glL c cells
  inj : ∀ id g id' g' b, G.ob id g = some (some b) → G.ob id' g' = some (some b) → id = id'
  row : ∀ id g nl cells, hp id = some (g, .row nl cells) → ∃ ob, G.ob id g = some ob ∧ (nl = true ↔ ob = none) ∧ (ob = none → cells = []) ∧
    ∀ b, ob = some b → ¬ G.S b ∧ M b ∧ ∃ vs, RdL G w cells vs ∧ Blk w.heap[b]? vs
theorem Blk.cells {o : Option Obj} {vs : List Value} {cs : Array Value} {E : TypeId} (h : o = some (Obj.cells cs E (0, 0))) (hp : ∀ (j : Nat) (v : Value), vs[j]? = some v → cs[j]? = some v) (h1 : ∀ v ∈ vs, v.oneCell' = true) : Blk o vs :=
  .inl ⟨cs, E, h, hp, h1⟩
theorem Blk.shaped {w : World} {b : Nat} {vs : List Value} {p : TypeId × Nat} (h : Blk w.heap[b]? vs) (hs : w.shape? b = some p) :
    ∃ cs E, w.heap[b]? = some (Obj.cells cs E (0, 0)) ∧ (∀ (j : Nat) (v : Value), vs[j]? = some v → cs[j]? = some v) ∧ ∀ v ∈ vs, v.oneCell' = true := by
  rcases h with h | ⟨es, ck, h, _⟩
  · exact h
  · simp [World.shape?, h] at hs
theorem Heap.rowC {c : Nat} {M : Nat → Prop} {G : Gh} {hp : Hp} {w : World} (hH : Heap c M G hp w) (id g : Nat) (nl : Bool) (cells : List AV) (hi : hp id = some (g, .row nl cells)) : ∃ ob, G.ob id g = some ob ∧ (nl = true ↔ ob = none) ∧ (ob = none → cells = []) ∧
    ∀ b, ob = some b → (∃ p, w.shape? b = some p) → ¬ G.S b ∧ M b ∧ ∃ vs cs E, w.heap[b]? = some (Obj.cells cs E (0, 0)) ∧ RdL G w cells vs ∧ (∀ (j : Nat) (v : Value), vs[j]? = some v → cs[j]? = some v) ∧ ∀ v ∈ vs, v.oneCell' = true := by
  obtain ⟨ob, h1, h2, h3, h4⟩ := hH.row id g nl cells hi
  refine ⟨ob, h1, h2, h3, fun b hb ⟨p, hs⟩ => ?_⟩
  obtain ⟨k1, k2, vs, k3, k4⟩ := h4 b hb
  obtain ⟨cs, E, k5, k6, k7⟩ := k4.shaped hs
  exact ⟨k1, k2, vs, cs, E, k5, k3, k6, k7⟩
structure ASt where
  tm : Nat → AV
  hp : Hp
  gc : Nat
  N : Nat
class Tabs (P : Program) where
  tab : Nat → Option (List AV)
def TabOk (P : Program) [Tabs P] (S : Nat → Prop) (w : World) : Prop := ∀ g xs, Tabs.tab P g = some xs →
  S g ∧ AV.free.freeL xs = true ∧ ∃ (cs : List Value) (E : TypeId) (fr : Nat × Nat), RdL ⟨S, fun _ _ => none⟩ w xs cs ∧ w.heap[g]? = some (Obj.cells cs.toArray E fr) ∧ ∀ v ∈ cs, v.oneCell' = true
theorem TabOk.mono {P : Program} [Tabs P] {S S' : Nat → Prop} {w w' : World} (h : TabOk P S w) (hS : ∀ b, S b → S' b) (hc : ∀ b, S b → w'.heap[b]? = w.heap[b]?) : TabOk P S' w' := by
  intro g xs hg
  obtain ⟨h1, h2, cs, E, fr, h3, h4, h5⟩ := h g xs hg
  exact ⟨hS _ h1, h2, cs, E, fr, RdL.of_free (G := ⟨S, fun _ _ => none⟩) hS hc _ _ h2 h3, (hc _ h1).trans h4, h5⟩
def ev (P : Program) [Tabs P] (st : ASt) : Operand → AV
  | .tmp t => st.tm t
  | .const v => .sc v
  | .func f => .sc (.func (.func f) #[] #[])
  | .global g => match Tabs.tab P g with
    | some xs => .fp (.agg xs) 0
    | none => .junk
structure Beg where
  G : Gh
  c : Nat
  defs : List Deferred
  lim : Nat
structure R (P : Program) [Tabs P] (w0 : World) (M : Nat → Prop) (Z : Beg) (G : Gh) (st : ASt) (a : Act) (w : World) : Prop where
  keep : Keep w0.heap.size M w0 w
  heap : Heap st.gc (fun b => w0.heap.size ≤ b ∨ M b) G st.hp w
  size : a.tmps.size = st.N
  tm : ∀ t, Rd G w (st.tm t) (a.tmps.getD t undef)
  gl : ∀ t, (st.tm t).gl st.gc
  defers : a.defers = Z.defs
  fr : ∀ b, G.S b → Z.G.S b ∨ w0.heap.size ≤ b ∨ M b
  ext : Ext Z.c Z.G w0 G w
  lc : Z.c ≤ st.gc
  lc1 : Z.c ≤ Z.lim
  tabs : TabOk P G.S w
theorem R.ev {P : Program} [Tabs P] {w0 : World} {M : Nat → Prop} {Z : Beg} {G : Gh} {st : ASt} {a : Act} {w : World} (h : R P w0 M Z G st a w) (x : Operand) : Rd G w (Aw.ev P st x) (a.eval x) := by
  cases x with
  | tmp t => exact h.tm t
  | const v => simp [Aw.ev, Act.eval, Rd]
  | func f => simp [Aw.ev, Act.eval, Rd]
  | global g =>
    simp only [Aw.ev]
    cases hg : Tabs.tab P g with
    | none => simp [Rd]
    | some xs =>
      obtain ⟨h1, h2, cs, E, fr, h3, h4, h5⟩ := h.tabs g xs hg
      simp only [Rd]
      exact ⟨.agg cs.toArray, g, 0, ⟨cs, rfl, RdL.of_free (G := ⟨G.S, fun _ _ => none⟩) (G' := G) (fun _ h => h) (fun _ _ => rfl) _ _ h2 h3, h5⟩, rfl, h1, fun j v hv => by
        simp only [Value.cells] at hv
        simp only [World.cell?, h4, Nat.zero_add]
        simpa using hv⟩
theorem R.evgl {P : Program} [Tabs P] {w0 : World} {M : Nat → Prop} {Z : Beg} {G : Gh} {st : ASt} {a : Act} {w : World} (h : R P w0 M Z G st a w) (x : Operand) : (Aw.ev P st x).gl st.gc := by
  cases x with
  | tmp t => exact h.gl t
  | const v => simp [Aw.ev, AV.gl]
  | func f => simp [Aw.ev, AV.gl]
  | global g =>
    simp only [Aw.ev]
    cases hg : Tabs.tab P g with
    | none => simp [AV.gl]
    | some xs =>
      obtain ⟨h1, h2, _⟩ := h.tabs g xs hg
      simp only [AV.gl]
      exact glL_of_free _ _ h2
def upd (f : Nat → AV) (t : Nat) (v : AV) : Nat → AV := fun s => if s = t then v else f s
def updH (f : Hp) (t : Nat) (v : Option (Nat × AO)) : Hp := fun s => if s = t then v else f s
def ASt.put (st : ASt) (d : Option Nat) (v : AV) : ASt :=
  match d with
  | some d => { st with tm := upd st.tm d v }
  | none => st
end Go.Proofs.YtbmmdkbinlnogaaDoor.Aw
