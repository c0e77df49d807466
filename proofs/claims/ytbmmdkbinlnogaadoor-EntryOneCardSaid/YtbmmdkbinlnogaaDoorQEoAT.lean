/- Parts of the proofs of Eo. -/
import Derived.Test.YtbmmdkbinlnogaaDoorQEoAS
namespace Go.Proofs.YtbmmdkbinlnogaaDoor.Aw
open Go
set_option linter.unusedSimpArgs false
set_option linter.unusedVariables false
section
variable {P : Program} [Tabs P] {w0 : World} {M : Nat → Prop} {Z : Beg} {G : Gh} {st : ASt} {a : Act} {w : World}
def mkOps (bs : List (List Nat)) : Array Oper := (bs.map fun l => ({ (default : Oper) with after := (l.map fun k => (⟨k, .data⟩ : Edge)).toArray } : Oper)).toArray
theorem binders_mk {bs : List (List Nat)} {i : Nat} : binders (mkOps bs) i = bs.getD i [] := by
  simp only [binders, mkOps]
  rw [List.getElem?_toArray, List.getElem?_map]
  cases h : bs[i]? with
  | none => simp [List.getD, h]
  | some l =>
    simp only [Option.map_some, Option.getD_some, List.getD, h]
    rw [List.filter_eq_self.2]
    · rw [List.map_map]; exact List.map_id' _
    · intro e he
      rw [List.mem_map] at he
      obtain ⟨k, _, rfl⟩ := he
      rfl
def sw01 (k : Nat) : Nat := if k = 0 then 1 else if k = 1 then 0 else k
theorem sw01_sw01 (k : Nat) : sw01 (sw01 k) = k := by
  unfold sw01
  split
  · simp; omega
  · split
    · simp; omega
    · simp [*]
def bsOne (ops : Array Oper) (n : Nat) : List (List Nat) := (List.range n).map fun i => if i = 1 then [0] else binders ops i
def bsTwo (ops : Array Oper) (n : Nat) : List (List Nat) := (List.range n).map fun i => if i = 0 then [] else if i = 1 then [0] else (binders ops i).map sw01
def swL (sl : List SOper) : List SOper := match sl with
  | x :: y :: r => y :: x :: r
  | l => l
def twoOk (ops : Array Oper) (sl : List SOper) : Bool :=
  decide (2 ≤ sl.length) && (binders ops 0).isEmpty && (binders ops 1).isEmpty &&
  (List.range sl.length).all (fun i => decide (i < 2) || (binders ops i).contains 0 || (binders ops i).contains 1) &&
  drawOk (mkOps (bsOne ops sl.length)) sl && drawOk (mkOps (bsTwo ops sl.length)) (swL sl)
theorem drawT_sound {q : Bool} {ops : Array Oper} {x y : SOper} {r : List SOper} {K : ASt → Prop} {Q : Exit → Act → World → Prop} {id N : Nat} (hmix : P.follows .mixedOrders = true) (hQ : ¬ LetsOut Q) (hsl : ops.toList.mapM (slimO P N q ops) = some (x :: y :: r)) (hok : twoOk ops (x :: y :: r) = true)
    (hK : ∀ st G a w, K st → R P w0 M Z G st a w → Q .normal a w) (hN : st.N = N) (hR : R P w0 M Z G st a w) (h : AOps P (x :: y :: r) K st) (h' : AOps P (y :: x :: r) K st) : wpR P (Code.region id ops true) Q a w := by
  simp only [twoOk, Bool.and_eq_true, List.isEmpty_iff] at hok
  obtain ⟨⟨⟨⟨⟨_, hb0⟩, hb1⟩, hbr⟩, hd1⟩, hd2⟩ := hok
  obtain ⟨hlen, hget⟩ := mapM_get hsl
  have hn2 : 2 ≤ ops.size := by rw [← hlen]; simp
  obtain ⟨n, hn⟩ : ∃ n, n = (x :: y :: r).length := ⟨_, rfl⟩
  rw [← hn] at hd1 hd2 hbr hlen
  have e1 : ∀ i, i < n → binders (mkOps (bsOne ops n)) i = if i = 1 then [0] else binders ops i := fun i hi => by
    rw [binders_mk, bsOne]; simp [List.getD, hi]
  have e2 : ∀ i, i < n → binders (mkOps (bsTwo ops n)) i = if i = 0 then [] else if i = 1 then [0] else (binders ops i).map sw01 := fun i hi => by
    rw [binders_mk, bsTwo]; simp [List.getD, hi]
  have hl2 : (swL (x :: y :: r)).length = n := by rw [hn]; rfl
  obtain ⟨k1, -⟩ := drawOk_spec hd1
  obtain ⟨k2, -⟩ := drawOk_spec hd2
  rw [← hn] at k1
  rw [hl2] at k2
  have kb : ∀ i, i < ops.size → ∀ k ∈ binders ops i, k < i := fun i hi k hk => by
    by_cases c : i = 1
    · subst c; rw [hb1] at hk; simp at hk
    · have := k1 i (by omega) k
      rw [e1 i (by omega), if_neg c] at this
      exact this hk
  obtain ⟨f, hf0, hKf, hf⟩ := h.runs
  obtain ⟨f', hf0', hKf', hf'⟩ := h'.runs
  have hNm : ∀ {ops' : Array Oper} {l : List SOper} {ff : Nat → ASt} {D : Nat → Prop} {s : ASt}, ff 0 = st → Mid P ops' l ff D s → s.N = N := fun e hm => by rw [hm.N, e, hN]
  have hsl' : ∀ i, (swL (x :: y :: r))[sw01 i]? = (x :: y :: r)[i]? := fun i => by
    match i with
    | 0 => rfl
    | 1 => rfl
    | i + 2 => simp [swL, sw01]
  have hswn : ∀ i, i < n → sw01 i < n := fun i hi => by unfold sw01; split <;> (try split) <;> omega
  refine wpR_region_any hmix hQ ?_
  have hR' : R P w0 M Z G st a { w with drawn := w.drawn + 1 } := hR.heapEq rfl rfl rfl rfl
  refine any_inv (fun D a w => ∃ s G, R P w0 M Z G s a w ∧ (((∀ i, i < ops.size → ¬ D i) ∧ s = st) ∨ (D 0 ∧ Mid P (mkOps (bsOne ops n)) (x :: y :: r) f D s) ∨ (D 1 ∧ Mid P (mkOps (bsTwo ops n)) (swL (x :: y :: r)) f' (fun k => D (sw01 k)) s)))
    kb ?_ ?_ ?_ ops.size (Array.replicate ops.size false) a _ (by simp) (by
    exact Nat.le_trans (List.length_filter_le _ _) (by simp)) ?_
  · rintro D D' a w hDD ⟨s, G, hR, hc⟩
    refine ⟨s, G, hR, ?_⟩
    rcases hc with ⟨c1, c2⟩ | ⟨c1, c2⟩ | ⟨c1, c2⟩
    · exact .inl ⟨fun i hi hd => c1 i hi ((hDD i hi).2 hd), c2⟩
    · exact .inr (.inl ⟨(hDD 0 (by omega)).1 c1, c2.congr (by rw [← hn]; exact k1) fun k hk => hDD k (by rw [← hn] at hk; omega)⟩)
    · exact .inr (.inr ⟨(hDD 1 (by omega)).1 c1, c2.congr (by rw [hl2]; exact k2) fun k hk => hDD _ (by rw [hl2] at hk; have := hswn k hk; omega)⟩)
  · rintro D a w i o ho ⟨s, G, hRs, hc⟩ hnd hr
    obtain ⟨u, hu, huo⟩ := hget i o ho
    have hio : i < ops.size := (Array.getElem?_eq_some_iff.1 ho).1
    rcases hc with ⟨c1, rfl⟩ | ⟨c1, c2⟩ | ⟨c1, c2⟩
    · have hi2 : i < 2 := by
        have := List.all_eq_true.1 hbr i (List.mem_range.2 (by omega))
        simp only [Bool.or_eq_true, decide_eq_true_eq, List.contains_iff_mem] at this
        rcases this with (h | h) | h
        · exact h
        · exact absurd (hr 0 h) (c1 0 (by omega))
        · exact absurd (hr 1 h) (c1 1 (by omega))
      have hno : ∀ {ops' : Array Oper} {l : List SOper} {ff : Nat → ASt}, ff 0 = s → (∀ i, i < l.length → ∀ k ∈ binders ops' i, k < i) → Mid P ops' l ff (fun _ => False) s := fun e _ => by rw [← e]; exact mid_start _ fun _ h => h
      match i, hu, hi2 with
      | 0, hu, _ =>
        have hm := hno (ops' := mkOps (bsOne ops n)) (l := x :: y :: r) hf0 (by rw [← hn]; exact k1)
        refine wpOp_mono ?_ (gstep_sound (Q := Q) ho (by rw [hN]; exact huo) hRs (mid_step hd1 hf hm hu (fun h => h) (fun k hk => by rw [e1 0 (by omega), if_neg (by omega), hb0] at hk; simp at hk)))
        rintro a' w' ⟨s', G', hm', hR'⟩
        refine ⟨s', G', hR', .inr (.inl ⟨.inl rfl, hm'.congr (by rw [← hn]; exact k1) fun k hk => ⟨?_, ?_⟩⟩)⟩
        · rintro (h | h)
          · exact .inl h
          · exact h.elim
        · rintro (h | h)
          · exact .inl h
          · exact absurd h (c1 k (by rw [← hn] at hk; omega))
      | 1, hu, _ =>
        have hm := hno (ops' := mkOps (bsTwo ops n)) (l := swL (x :: y :: r)) hf0' (by rw [hl2]; exact k2)
        have hu' : (swL (x :: y :: r))[0]? = some u := by have := hsl' 1; rw [hu] at this; exact this
        refine wpOp_mono ?_ (gstep_sound (Q := Q) ho (by rw [hN]; exact huo) hRs (mid_step hd2 hf' hm hu' (fun h => h) (fun k hk => by rw [e2 0 (by omega), if_pos rfl] at hk; simp at hk)))
        rintro a' w' ⟨s', G', hm', hR'⟩
        refine ⟨s', G', hR', .inr (.inr ⟨.inl rfl, hm'.congr (by rw [hl2]; exact k2) fun k hk => ⟨?_, ?_⟩⟩)⟩
        · rintro (h | h)
          · subst h; exact .inl rfl
          · exact h.elim
        · rintro (h | h)
          · left
            have := congrArg sw01 h
            rw [sw01_sw01] at this
            exact this
          · exact absurd h (c1 _ (by rw [hl2] at hk; have := hswn k hk; omega))
    · have hrr : ∀ k ∈ binders (mkOps (bsOne ops n)) i, D k := fun k hk => by
        rw [e1 i (by omega)] at hk
        split at hk
        · simp only [List.mem_singleton] at hk; subst hk; exact c1
        · exact hr k hk
      refine wpOp_mono ?_ (gstep_sound (Q := Q) ho (by rw [hNm hf0 c2]; exact huo) hRs (mid_step hd1 hf c2 hu hnd hrr))
      rintro a' w' ⟨s', G', hm', hR'⟩
      exact ⟨s', G', hR', .inr (.inl ⟨.inr c1, hm'⟩)⟩
    · have hrr : ∀ k ∈ binders (mkOps (bsTwo ops n)) (sw01 i), D (sw01 k) := fun k hk => by
        rw [e2 _ (hswn i (by omega))] at hk
        match i with
        | 0 => simp [sw01] at hk; subst hk; exact c1
        | 1 => exact absurd c1 hnd
        | i + 2 =>
          simp [sw01] at hk
          obtain ⟨m, hm, rfl⟩ := hk
          have : sw01 (if m = 0 then 1 else if m = 1 then 0 else m) = m := sw01_sw01 m
          rw [this]
          exact hr m hm
      refine wpOp_mono ?_ (gstep_sound (Q := Q) ho (by rw [hNm hf0' c2]; exact huo) hRs (mid_step hd2 hf' c2 (by rw [hsl']; exact hu) (by rw [sw01_sw01]; exact hnd) hrr))
      rintro a' w' ⟨s', G', hm', hR'⟩
      refine ⟨s', G', hR', .inr (.inr ⟨.inr c1, hm'.congr (by rw [hl2]; exact k2) fun k hk => ⟨?_, ?_⟩⟩)⟩
      · rintro (h | h)
        · left; rw [h, sw01_sw01]
        · exact .inr h
      · rintro (h | h)
        · left; rw [← h, sw01_sw01]
        · exact .inr h
  · rintro D a w hall ⟨s, G, hR, hc⟩
    rcases hc with ⟨c1, _⟩ | ⟨_, hm⟩ | ⟨_, hm⟩
    · exact absurd (hall 0 (by omega)) (c1 0 (by omega))
    · have := mid_end hf hm fun i hi => hall i (by rw [← hn] at hi; omega)
      rw [this] at hR
      exact hK _ _ _ _ hKf hR
    · have := mid_end hf' hm fun i hi => hall _ (by have hi : i < (swL (x :: y :: r)).length := hi; rw [hl2] at hi; have := hswn i hi; omega)
      rw [this] at hR
      exact hK _ _ _ _ hKf' hR
  · refine ⟨st, G, hR', .inl ⟨fun i _ => ?_, rfl⟩⟩
    show ¬ ((Array.replicate ops.size false).getD i false = true)
    rw [Array.getD_eq_getD_getElem?, Array.getElem?_replicate]
    split <;> simp
end
end Go.Proofs.YtbmmdkbinlnogaaDoor.Aw
