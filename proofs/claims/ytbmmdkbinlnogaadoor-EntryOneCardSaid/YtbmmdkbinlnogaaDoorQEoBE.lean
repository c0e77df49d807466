/- Parts of the proofs of Eo. -/
import Derived.Test.YtbmmdkbinlnogaaDoorQEoBD
namespace Go.Proofs.YtbmmdkbinlnogaaDoor.Aw
open Go
set_option linter.unusedSimpArgs false
set_option linter.unusedVariables false
set_option linter.unusedSimpArgs false
set_option linter.unusedVariables false
def AO.fzo (id g : Nat) (nl : Bool) (cells : List AV) : AO → AO
  | .row nl' cs => .row nl' (Aw.fzo.fzoL id g nl cells cs)
theorem heap_recell {G : Gh} {w : World} {c id g : Nat} {nl : Bool} {cells cells' : List AV} {M : Nat → Prop} {hp : Hp} (hH : Heap c M G hp w) (hid : hp id = some (g, .row nl cells)) (hgl : AV.gl.glL c cells') (hnil : cells = [] → cells' = [])
    (hrd : ∀ vs, RdL G w cells vs → RdL G w cells' vs) : Heap c M G (updH hp id (some (g, .row nl cells'))) w := by
  refine ⟨hH.lt, ?_, ?_, hH.inj, ?_⟩
  · intro i k ob ho
    obtain ⟨o, h1⟩ := hH.live _ _ _ ho
    unfold updH
    by_cases e : i = id
    · subst e
      rw [hid] at h1
      cases h1
      rw [if_pos rfl]; exact ⟨_, rfl⟩
    · rw [if_neg e]; exact ⟨o, h1⟩
  · intro i k nl' cs ho
    unfold updH at ho
    by_cases e : i = id
    · subst e
      rw [if_pos rfl] at ho
      simp only [Option.some.injEq, Prod.mk.injEq, AO.row.injEq] at ho
      obtain ⟨rfl, rfl, rfl⟩ := ho
      exact ⟨(hH.gl _ _ _ _ hid).1, hgl⟩
    · rw [if_neg e] at ho; exact hH.gl _ _ _ _ ho
  · intro i k nl' cs ho
    unfold updH at ho
    by_cases e : i = id
    · subst e
      rw [if_pos rfl] at ho
      simp only [Option.some.injEq, Prod.mk.injEq, AO.row.injEq] at ho
      obtain ⟨rfl, rfl, rfl⟩ := ho
      obtain ⟨ob, k1, k2, k3, k4⟩ := hH.row _ _ _ _ hid
      refine ⟨ob, k1, k2, fun e => hnil (k3 e), fun b hb => ?_⟩
      obtain ⟨q1, q2, us, q4, q3⟩ := k4 b hb
      exact ⟨q1, q2, us, hrd _ q4, q3⟩
    · rw [if_neg e] at ho; exact hH.row _ _ _ _ ho
section
variable {id g : Nat} {nl : Bool} {cells : List AV}
theorem fzo_own {i k lo n : Nat} {es : Option Nat} : fzo id g nl cells (.own i k es lo n) = if i = id ∧ k = g then (if lo + n * esz es ≤ cells.length then .sl nl es (chunks es n (cells.drop lo)) else .junk) else .own i k es lo n := rfl
theorem fzoL_nil : fzo.fzoL id g nl cells [] = [] := rfl
theorem fzoL_cons {x : AV} {xs : List AV} : fzo.fzoL id g nl cells (x :: xs) = fzo id g nl cells x :: fzo.fzoL id g nl cells xs := rfl
end
end Go.Proofs.YtbmmdkbinlnogaaDoor.Aw
