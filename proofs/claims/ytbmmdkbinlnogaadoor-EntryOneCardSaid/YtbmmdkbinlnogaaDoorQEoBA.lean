/- Parts of the proofs of Eo. -/
import Derived.Test.YtbmmdkbinlnogaaDoorQEoAX
namespace Go.Proofs.YtbmmdkbinlnogaaDoor.Aw
open Go
set_option linter.unusedSimpArgs false
set_option linter.unusedVariables false
theorem rdL_sc_inv {G : Gh} {w : World} : ∀ {xs us : List Value}, RdL G w (xs.map .sc) us → us = xs
  | [], us, h => by simpa [RdL] using h
  | x :: xs, us, h => by
    simp only [List.map_cons, RdL] at h
    obtain ⟨v, r, rfl, h1, h2⟩ := h
    rw [rdL_sc_inv h2]
    simp only [Rd] at h1
    rw [h1]
theorem Con.plain {P : Program} [Tabs P] {f : Nat} {xs : List Value} {v : Value} (h : ∀ w, Calls P f xs.toArray w fun e w' => e = .returned v ∧ w'.heap = w.heap ∧ w'.os = w.os ∧ w'.tape = w.tape ∧ w'.output = w.output) : Con P f (xs.map .sc) (.sc v) := by
  intro w S vs _ hS hr
  rw [rdL_sc_inv hr]
  refine (h w).mono ?_
  rintro e w' ⟨rfl, hh, ho, ht, hp⟩
  exact ⟨v, S, rfl, ⟨ho, ht, hp, by rw [hh]; exact Nat.le_refl _, fun k _ _ => by rw [hh]⟩, fun _ h => h, fun _ h => .inl h, fun b hb => by rw [hh]; exact hS b hb, rfl, by simp [Rd]⟩
theorem Con.same {P : Program} [Tabs P] {f : Nat} {xs : List Value} {v : Value} (h : ∀ w, Calls P f xs.toArray w fun e w' => e = .returned v ∧ w' = w) : Con P f (xs.map .sc) (.sc v) :=
  Con.plain fun w => (h w).mono (by rintro e w' ⟨rfl, rfl⟩; exact ⟨rfl, rfl, rfl, rfl, rfl⟩)
theorem Con.drew {P : Program} [Tabs P] {f : Nat} {xs : List Value} {v : Value} (h : ∀ w, Calls P f xs.toArray w fun e w' => e = .returned v ∧ (w' = w ∨ w' = w.drew)) : Con P f (xs.map .sc) (.sc v) :=
  Con.plain fun w => (h w).mono (by
    rintro e w' ⟨rfl, h⟩
    rcases h with rfl | rfl <;> exact ⟨rfl, rfl, rfl, rfl, rfl⟩)
theorem SWp.adopt {P : Program} [Tabs P] [Lim] {Q : Ex → ASt → Prop} {st : ASt} {c : SCode} (t : Nat) (es : Option Nat) (ht : st.tm t = .sc (.slice none 0 0))
    (h : SWp P c Q ⟨upd st.tm t (.own t st.gc es 0 0), updH st.hp t (some (st.gc, .row true [])), st.gc + 1, st.N⟩) : SWp P c Q st := by
  intro hm code hc w0 M Z G a w hZ hR
  obtain ⟨G', hE, hH', hx, hg, _, _, hS⟩ := res_nil hR.heap t es
  refine h hm code hc w0 M Z G' a w hZ ⟨hR.keep, hH', hR.size, ?_, ?_, hR.defers, ?_, hR.ext.trans hR.lc hE, Nat.le_trans hR.lc (Nat.le_succ _), hR.lc1, hR.tabs.mono hE.S hE.cells⟩
  · intro u
    simp only [upd]
    by_cases e : u = t
    · subst e
      rw [if_pos rfl]
      have := hR.tm u
      rw [ht] at this
      rw [this.sc_inv]
      exact hx
    · rw [if_neg e]
      exact Rd.mono hE _ _ (hR.gl u) (hR.tm u)
  · intro u
    simp only [upd]
    by_cases e : u = t
    · rw [if_pos e]; exact hg
    · rw [if_neg e]; exact gl_mono (Nat.le_succ _) _ (hR.gl u)
  · intro b hb
    rcases hS b hb with h | h
    · exact hR.fr b h
    · exact .inr (h.elim (fun h => .inl (Nat.le_trans hR.keep.size h)) id)
def nl0 : Nat → Bool
  | 0 => true
  | _ + 1 => false
theorem nl0_zero : nl0 0 = true := rfl
theorem nl0_succ {n : Nat} : nl0 (n + 1) = false := rfl
end Go.Proofs.YtbmmdkbinlnogaaDoor.Aw
