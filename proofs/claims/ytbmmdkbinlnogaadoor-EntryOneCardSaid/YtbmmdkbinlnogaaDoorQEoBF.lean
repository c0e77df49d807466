/- Parts of the proofs of Eo. -/
import Derived.Test.YtbmmdkbinlnogaaDoorQEoBE
namespace Go.Proofs.YtbmmdkbinlnogaaDoor.Aw
open Go
set_option linter.unusedSimpArgs false
set_option linter.unusedVariables false
set_option linter.unusedSimpArgs false
set_option linter.unusedVariables false
theorem SWp.cut {P : Program} [Tabs P] [Lim] {Q : Ex → ASt → Prop} {st : ASt} {c : SCode} (id k : Nat) {g : Nat} {nl : Bool} {cells : List AV} (hid : st.hp id = some (g, .row nl cells))
    (h : SWp P c Q ⟨st.tm, updH st.hp id (some (g, .row nl (cells.take k))), st.gc, st.N⟩) : SWp P c Q st := by
  intro hm code hc w0 M Z G a w hZ hR
  have hH := hR.heap
  refine h hm code hc w0 M Z G a w hZ { hR with heap := ⟨hH.lt, fun i j ob ho => ?_, fun i j nl' cells' hi => ?_, hH.inj, fun i j nl' cells' hi => ?_⟩ }
  · obtain ⟨o, ho'⟩ := hH.live _ _ _ ho
    simp only [updH]
    split
    · rename_i e
      subst e
      rw [hid] at ho'
      cases ho'
      exact ⟨_, rfl⟩
    · exact ⟨o, ho'⟩
  · simp only [updH] at hi
    split at hi
    · rename_i e
      subst e
      cases hi
      obtain ⟨p, q⟩ := hH.gl _ _ _ _ hid
      exact ⟨p, glL_take q⟩
    · exact hH.gl _ _ _ _ hi
  · simp only [updH] at hi
    split at hi
    · rename_i e
      subst e
      cases hi
      obtain ⟨ob, h1, h2, h3, h4⟩ := hH.row _ _ _ _ hid
      refine ⟨ob, h1, h2, fun e => by rw [h3 e]; simp, fun b hb => ?_⟩
      obtain ⟨k1, k2, vs, k4, k3⟩ := h4 b hb
      refine ⟨k1, k2, vs.take k, k4.take k, ?_⟩
      rcases k3 with ⟨cs, E, k3, k5, k6⟩ | ⟨es, ck, k3, k5, k6⟩
      · refine .inl ⟨cs, E, k3, fun j v hv => k5 j v ?_, fun v hv => k6 v (List.mem_of_mem_take hv)⟩
        rw [List.getElem?_take] at hv
        split at hv
        · exact hv
        · simp at hv
      · refine .inr ⟨es, ck, k3, ?_, k6⟩
        rcases k5 with rfl | rfl
        · cases k <;> simp
        · simp
    · exact hH.row _ _ _ _ hi
end Go.Proofs.YtbmmdkbinlnogaaDoor.Aw
