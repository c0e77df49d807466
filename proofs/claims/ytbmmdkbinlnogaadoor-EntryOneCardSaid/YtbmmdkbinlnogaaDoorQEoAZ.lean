/- Parts of the proofs of Eo. -/
import Derived.Test.YtbmmdkbinlnogaaDoorQEoAY
import Derived.Deep.Slices
namespace Go.Proofs.YtbmmdkbinlnogaaDoor.Aw
open Go Go.ChangeShapes Go.WideShapes Go.ChangeAt Go.RowKit
set_option linter.unusedSimpArgs false
set_option linter.unusedVariables false
section
variable {H : Type} (enc : TypeId × Value → H) (P : Program) (W : World)
def Opens {α : Type} (t : TypeId) (f : α → List AV) (R : α → Prop) : Prop :=
  ∀ (fuel : Nat) (cs : List Value) (x : DataW H × List MemPlace), DataW.trod enc P W 0 (fun _ => true) true fuel t cs = some x → ∃ a, RdL (all W) W (f a) cs ∧ (∀ u ∈ cs, u.oneCell' = true) ∧ R a
def OpensFs {α : Type} (fs : List Field) (off tot : Nat) (f : α → List AV) (R : α → Prop) : Prop :=
  ∀ (n : Nat) (cs : List Value), cs.length = tot → (∀ fl ∈ fs, ∃ x, DataW.trod enc P W 0 (fun _ => true) true n fl.type ((cs.drop fl.offset).take (P.cellsOf fl.type)) = some x) →
    ∃ a, RdL (all W) W (f a) (cs.drop off) ∧ (∀ u ∈ cs.drop off, u.oneCell' = true) ∧ R a
variable {enc P W}
theorem opens_int {t : TypeId} {k : IntKind} (ht : P.underlying t = some (.int k)) : Opens enc P W t (fun n : Int => [.sc (.int k n)]) (fun n => k.min ≤ n ∧ n ≤ k.max) := by
  intro fuel cs x h
  obtain ⟨n, rfl, _, hw⟩ := DataW.trod_int ht h
  simp only [Lit.wf, Bool.and_eq_true, decide_eq_true_eq] at hw
  exact ⟨n, by simp [RdL, Rd], by simp [Value.oneCell'], hw.1, hw.2⟩
theorem opens_u8 {t : TypeId} (ht : P.underlying t = some (.int .u8)) : Opens enc P W t (fun c : UInt8 => [u8 c]) (fun _ => True) := by
  intro fuel cs x h
  obtain ⟨n, rfl, _, hw⟩ := DataW.trod_int ht h
  simp only [Lit.wf, Bool.and_eq_true, decide_eq_true_eq] at hw
  have h1 : 0 ≤ n := hw.1
  have h2 : n ≤ 255 := hw.2
  refine ⟨UInt8.ofNat n.toNat, ?_, by simp [Value.oneCell'], trivial⟩
  simp only [u8, RdL, Rd]
  refine ⟨_, [], rfl, ?_, rfl⟩
  congr 1
  simp
  omega
theorem opens_string {t : TypeId} (ht : P.underlying t = some .string) : Opens enc P W t (fun l : List UInt8 => [str l]) (fun l => l.length ≤ maxLen) := by
  intro fuel cs x h
  obtain ⟨s, rfl, _, hs⟩ := DataW.trod_string ht h
  exact ⟨s.data.toList, by show RdL _ _ [str s.data.toList] _; rw [str_data]; simp [RdL, Rd], by simp [Value.oneCell'], by show s.data.toList.length ≤ maxLen; rw [← size_data]; exact hs⟩
theorem rdL_of_fam {α : Type} {G : Gh} {w : World} {g : α → AV} : ∀ (as : List α) (vs : List Value), vs.length = as.length → (∀ (i : Nat) (a : α) (v : Value), as[i]? = some a → vs[i]? = some v → Rd G w (g a) v) → RdL G w (as.map g) vs :=
  fun as vs hl h => RdL.of_get (by simp [hl]) fun i x v hx hv => by
    rw [List.getElem?_map] at hx
    cases ha : as[i]? with
    | none => rw [ha] at hx; simp at hx
    | some a => rw [ha] at hx; simp at hx; subst hx; exact h i a v ha hv
theorem spot_of_cell {a : Addr} {v : Value} (h : W.cell? a = some v) : a.spot = none ∧ a.block < W.heap.size := by
  unfold World.cell? at h
  split at h
  · rename_i hh
    split at h
    · simp at h
    · rename_i hs
      exact ⟨by simpa using hs, lt_of_some hh⟩
  · simp at h
theorem opens_slice {α : Type} [Inhabited α] {t e : TypeId} {es : Option Nat} {f : α → List AV} {R : α → Prop} (ht : P.underlying t = some (.slice e)) (hpos : 0 < P.cellsOf e) (he : P.cellsOf e = esz es) (h : Opens enc P W e f R)
    (mkv : List Value → Value) (g : α → AV) (hg : ∀ a cs, RdL (all W) W (f a) cs → cs.length = P.cellsOf e → (∀ u ∈ cs, u.oneCell' = true) → Rd (all W) W (g a) (mkv cs) ∧ shp es (mkv cs) ∧ (mkv cs).cells.toList = cs) :
    Opens enc P W t (fun p : Bool × List α => [.sl p.1 es (p.2.map g)]) (fun p => p.2.length ≤ maxLen ∧ (p.1 = true → p.2 = []) ∧ ∀ a ∈ p.2, R a) := by
  intro fuel cs x hx
  rcases Deep.open_slice ht hx with ⟨rfl, _⟩ | ⟨a, len, cap, m, n, D, Pl, rfl, _, hl, hcap, hm, _, hel⟩
  · refine ⟨(true, []), ?_, by simp [Value.oneCell'], by simp, by simp, by simp⟩
    simp only [RdL, Rd, List.map_nil]
    exact ⟨_, [], rfl, ⟨none, 0, 0, [], rfl, rfl, Nat.le_refl _, rfl, by simp, by simp, by simp⟩, rfl⟩
  · simp only [if_true] at hm
    subst hm
    obtain ⟨C, hC⟩ := Deep.choose_lt (α := List Value × α) (p := fun i q => W.cells? 0 (a.add (i * P.cellsOf e)) (P.cellsOf e) = some q.1 ∧ RdL (all W) W (f q.2) q.1 ∧ (∀ u ∈ q.1, u.oneCell' = true) ∧ R q.2) (n := len) (fun i hi => by
      obtain ⟨cs', h1, h2⟩ := hel i (by omega)
      obtain ⟨y, h3, h4, h5⟩ := h _ _ _ h2
      exact ⟨(cs', y), h1, h3, h4, h5⟩)
    have hcl : ∀ i, i < len → (C i).1.length = P.cellsOf e := fun i hi => (World.cells?_some (hC i hi).1).2.1
    refine ⟨(false, (List.range len).map fun i => (C i).2), ?_, by simp [Value.oneCell'], by simp; omega, by simp, ?_⟩
    · simp only [RdL, Rd]
      refine ⟨_, [], rfl, ⟨some a, len, m, (List.range len).map fun i => mkv (C i).1, rfl, by simp, hl, ?_, by simp, by simp, ?_⟩, rfl⟩
      · refine rdL_of_fam _ _ (by simp) fun i y v hy hv => ?_
        rw [List.getElem?_map] at hy hv
        by_cases hi : i < len
        · rw [List.getElem?_range hi] at hy hv
          simp at hy hv
          subst hy; subst hv
          exact (hg _ _ (hC i hi).2.1 (hcl i hi) (hC i hi).2.2.1).1
        · rw [List.getElem?_eq_none (by simp; omega)] at hy
          simp at hy
      · intro a' ha' hne
        cases ha'
        have h0 : 0 < len := by
          rcases Nat.eq_zero_or_pos len with h | h
          · subst h; simp at hne
          · exact h
        have hc0 := (World.cells?_some (hC 0 h0).1).2.2 0 hpos
        have e0 : (a.add (0 * P.cellsOf e)).add 0 = a := by simp [Addr.add]
        have hlt : 0 < (C 0).1.length := by rw [hcl 0 h0]; exact hpos
        rw [e0, List.getElem?_eq_getElem hlt] at hc0
        obtain ⟨hspot, hblk⟩ := spot_of_cell hc0
        refine ⟨hspot, hblk, fun i v hv => ?_⟩
        rw [List.getElem?_map] at hv
        by_cases hi : i < len
        · rw [List.getElem?_range hi] at hv
          simp at hv
          subst hv
          obtain ⟨k1, k2, k3⟩ := hg _ _ (hC i hi).2.1 (hcl i hi) (hC i hi).2.2.1
          refine ⟨k2, fun j u hu => ?_⟩
          rw [k3] at hu
          have hj : j < P.cellsOf e := by
            rw [← hcl i hi]
            exact (List.getElem?_eq_some_iff.1 hu).1
          have := (World.cells?_some (hC i hi).1).2.2 j hj
          rw [← spot_mk hspot, add_mk, add_mk] at this
          rw [he] at this
          simpa [hu] using this
        · rw [List.getElem?_eq_none (by simp; omega)] at hv
          simp at hv
    · intro y hy
      obtain ⟨i, hi, rfl⟩ := List.mem_map.1 hy
      exact (hC i (List.mem_range.1 hi)).2.2.2
theorem opens_slice1 {α : Type} [Inhabited α] {t e : TypeId} {g : α → AV} {R : α → Prop} (ht : P.underlying t = some (.slice e)) (hc : P.cellsOf e = 1) (h : Opens enc P W e (fun a => [g a]) R) :
    Opens enc P W t (fun p : Bool × List α => [.sl p.1 none (p.2.map g)]) (fun p => p.2.length ≤ maxLen ∧ (p.1 = true → p.2 = []) ∧ ∀ a ∈ p.2, R a) := by
  refine opens_slice ht (by omega) (by simpa [esz] using hc) h (fun cs => cs.headD .nilFunc) g ?_
  intro a cs hr hl h1
  match cs, (by omega : cs.length = 1) with
  | [v], _ =>
    simp only [RdL] at hr
    obtain ⟨v', r, hv, hr, rfl⟩ := hr
    obtain ⟨rfl, -⟩ := List.cons.inj hv
    have h1v : v.oneCell' = true := h1 v (by simp)
    refine ⟨hr, h1v, ?_⟩
    cases v <;> simp_all [Value.cells, Value.oneCell']
theorem opens_sliceS {α : Type} [Inhabited α] {t e : TypeId} {f : α → List AV} {R : α → Prop} {s : Nat} (ht : P.underlying t = some (.slice e)) (hc : P.cellsOf e = s) (hs : 0 < s) (h : Opens enc P W e f R) :
    Opens enc P W t (fun p : Bool × List α => [.sl p.1 (some s) (p.2.map fun a => .agg (f a))]) (fun p => p.2.length ≤ maxLen ∧ (p.1 = true → p.2 = []) ∧ ∀ a ∈ p.2, R a) := by
  refine opens_slice ht (by omega) (by simpa [esz] using hc) h (fun cs => .agg cs.toArray) (fun a => .agg (f a)) ?_
  intro a cs hr hl h1
  refine ⟨?_, ⟨cs, rfl, by omega, h1⟩, rfl⟩
  simp only [Rd]
  exact ⟨cs, rfl, hr, h1⟩
theorem opens_fnil {tot : Nat} : OpensFs enc P W [] tot tot (fun _ : Unit => []) (fun _ => True) := by
  intro n cs hl _
  refine ⟨(), ?_, ?_, trivial⟩
  · rw [List.drop_of_length_le (by omega)]; simp [RdL]
  · rw [List.drop_of_length_le (by omega)]; simp
theorem opens_fcons {α β : Type} {fl : Field} {fs : List Field} {off tot m : Nat} {f : α → List AV} {R : α → Prop} {f' : β → List AV} {R' : β → Prop} (ho : fl.offset = off) (hc : P.cellsOf fl.type = m)
    (h : Opens enc P W fl.type f R) (h' : OpensFs enc P W fs (off + m) tot f' R') : OpensFs enc P W (fl :: fs) off tot (fun p : α × β => f p.1 ++ f' p.2) (fun p => R p.1 ∧ R' p.2) := by
  intro n cs hl hx
  obtain ⟨x, h1⟩ := hx fl (by simp)
  obtain ⟨a, h2, h3, h4⟩ := h _ _ _ h1
  obtain ⟨b, h5, h6, h7⟩ := h' n cs hl fun g hg => hx g (by simp [hg])
  rw [ho, hc] at h2 h3
  have e : cs.drop off = (cs.drop off).take m ++ cs.drop (off + m) := by rw [← List.drop_drop, List.take_append_drop]
  refine ⟨(a, b), ?_, ?_, h4, h7⟩
  · rw [e]; exact h2.append h5
  · rw [e]
    intro u hu
    rcases List.mem_append.1 hu with hu | hu
    · exact h3 u hu
    · exact h6 u hu
theorem opens_struct {α : Type} {t : TypeId} {fs : Array Field} {tot : Nat} {f : α → List AV} {R : α → Prop} (ht : P.underlying t = some (.struct fs)) (hc : P.cellsOf t = tot) (h : OpensFs enc P W fs.toList 0 tot f R) : Opens enc P W t f R := by
  intro fuel cs x hx
  obtain ⟨xs, n, _, _, hl, hxl, hf⟩ := DataW.trod_struct ht hx
  have := h n cs (by omega) fun fl hfl => by
    obtain ⟨i, hi, rfl⟩ := List.getElem_of_mem hfl
    have hi' : i < fs.size := by simpa using hi
    have h2 := hf i fs[i] (by simp [hi'])
    rw [List.getElem?_eq_getElem (by omega)] at h2
    exact ⟨_, by simpa using h2⟩
  simpa using this
theorem arg_slice {α : Type} {t e : TypeId} {r : Reach} {b0 : Nat} {v : Value} {d : DataW H} {ps : List MemPlace} {g : α → AV} {R : α → Prop} (ht : P.underlying t = some (.slice e)) (h : Opens enc P W t (fun a => [g a]) R)
    (hval : Value.okWide P W r b0 t v) (hd : DataW.Trod enc P W 0 (fun _ => true) true t v d ps) : ∃ a, Rd (all W) W (g a) v ∧ R a := by
  obtain ⟨fuel, hd⟩ := hd
  have hna : ∀ cs, v ≠ .agg cs := by
    rintro cs rfl
    simp [Value.okWide, ht, Cell.okWide, Cell.ok] at hval
  obtain ⟨a, h1, _, h3⟩ := h _ _ _ hd
  simp only [RdL] at h1
  obtain ⟨v', r', hv, h1, rfl⟩ := h1
  rw [cells_one_val hv hna]
  exact ⟨a, h1, h3⟩
end
end Go.Proofs.YtbmmdkbinlnogaaDoor.Aw
