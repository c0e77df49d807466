/- The table of inflate lies there: from the row's condition. -/
import Derived.Test.YtokdmakljdhjiaaDoorInfT
import Derived.Test.YtokdmakljdhjiaaDoorAwR
import Derived.Test.YtokdmakljdhjiaaDoorRows
import Derived.MakeChecks
import Derived.Lib.LaidTab
namespace Go.Proofs.YtokdmakljdhjiaaDoor.Aw
open Go
set_option linter.unusedSimpArgs false
set_option linter.unusedVariables false

theorem laid_var {P : Program} {w : World} {n : String} {d : DataW Unit} : ∀ {l : List (String × DataW Unit)} {ps : List MemPlace}, DataW.LaidVars P w l ps → (n, d) ∈ l →
    ∃ g t cs fuel p, P.globalNamed n = some g ∧ (P.globals[g]?).map (·.type) = some t ∧ w.var? P n = some cs ∧ DataW.trod (fun _ => ()) P w 0 (fun _ => true) false fuel t cs.toList = some (d, p)
  | [], _, _, hm => by simp at hm
  | (n', d') :: r, ps, h, hm => by
    obtain ⟨g, t, cs, fuel, p, q, h1, h2, h3, h4, h5, _⟩ := h
    rcases List.mem_cons.1 hm with e | hm
    · cases e; exact ⟨g, t, cs, fuel, p, h1, h2, h3, h4⟩
    · exact laid_var h5 hm

theorem ok_of {P : Program} {W : World} {n : String} {g : Nat} {cs : Array Value} (hg : P.globalNamed n = some g) (zs : List Value) (h3 : W.var? P n = some cs) (hz : cs.toList = zs) (h1 : ∀ v ∈ zs, v.oneCell' = true) :
    (all W).S g ∧ AV.free.freeL (zs.map AV.sc) = true ∧ ∃ (cs : List Value) (E : TypeId) (fr : Nat × Nat), RdL ⟨(all W).S, fun _ _ => none⟩ W (zs.map AV.sc) cs ∧ W.heap[g]? = some (Obj.cells cs.toArray E fr) ∧ ∀ v ∈ cs, v.oneCell' = true := by
  unfold World.var? at h3
  rw [hg, Option.bind_some] at h3
  split at h3
  · rename_i cs' E fr hheap
    simp only [Option.some.injEq] at h3
    subst h3
    exact ⟨lt_of_some hheap, free_sc _, zs, E, fr, rdL_sc _, by rw [hheap, ← hz], h1⟩
  · simp at h3

theorem map_nA_sc (l : List Nat) : l.map nA = (l.map fun x : Nat => Value.int .i64 (x : Int)).map AV.sc := by simp only [List.map_map]; rfl
theorem dataT : (Rows.laid_drayage_inflate_tellers : DataW Unit) = Lib.tabData .i64 (tells.map fun x : Nat => (x : Int)) := by kernel_rfl
theorem globT : Tryd.prog.globalNamed "drayage/inflate.tellers" = some 0 := by kernel_rfl
theorem gtyT : (Tryd.prog.globals[0]?).map (·.type) = some 100 := by kernel_rfl

/-- The table that inflate leans on. -/
@[reducible] def inf_tabs : Tabs Tryd.prog := ⟨fun g => if g = 0 then some (tells.map nA) else none⟩
theorem inf_tab : @Tabs.tab Tryd.prog inf_tabs 0 = some (tells.map nA) := rfl
theorem inf_tabOk (W : World) (h : laidMetH Tryd.prog [("drayage/inflate.tellers", Rows.laid_drayage_inflate_tellers)] W) : @TabOk Tryd.prog inf_tabs (all W).S W := by
  rw [MakeChecks.laidMetH_plain _ _ _ (by kernel_rfl)] at h
  obtain ⟨ps, h, _⟩ := h
  obtain ⟨g1, t1, cs1, fuel1, p1, a1, b1, c1, d1⟩ := laid_var (n := "drayage/inflate.tellers") (d := Rows.laid_drayage_inflate_tellers) h (by simp)
  obtain rfl := Option.some.inj (globT.symm.trans a1)
  obtain rfl := Option.some.inj (gtyT.symm.trans b1)
  rw [dataT] at d1
  have e1 := Lib.cells_of_tab Tryd.underlying100 Tryd.underlying3 (by kernel_rfl) (by kernel_rfl) d1
  intro g xs hg
  simp only [inf_tabs, Tabs.tab] at hg
  split at hg
  · rename_i e
    subst e
    cases hg
    rw [map_nA_sc]
    refine ok_of globT _ c1 (e1.trans (by rw [List.map_map]; rfl)) ?_
    intro v hv
    obtain ⟨z, _, rfl⟩ := List.mem_map.1 hv
    rfl
  · simp at hg

@[reducible] def InflateShort_tabs : Tabs Tryd.prog := inf_tabs
theorem InflateShort_tabOk (W : World) (h : laidMetH Tryd.prog Rows.inflateShortRow.laid W) : @TabOk Tryd.prog InflateShort_tabs (all W).S W := inf_tabOk W h
theorem InflateShort_law (nl : Bool) (b : List UInt8) (hb : b.length ≤ maxLen) (hn : nl = true → b = []) (cut : Int) (h1 : IntKind.i64.min ≤ cut) (h2 : cut ≤ IntKind.i64.max) :
    @Con Tryd.prog InflateShort_tabs n_drayagelaw04_InflateShort [.sl nl none (b.map u8), int cut] (boo true) := @InflateShort_law' inf_tabs inf_tab nl b hb hn cut h1 h2
@[reducible] def InflateMost_tabs : Tabs Tryd.prog := inf_tabs
theorem InflateMost_tabOk (W : World) (h : laidMetH Tryd.prog Rows.inflateMostRow.laid W) : @TabOk Tryd.prog InflateMost_tabs (all W).S W := inf_tabOk W h
theorem InflateMost_law (nl : Bool) (b : List UInt8) (hb : b.length ≤ maxLen) (hn : nl = true → b = []) (most : Int) (h1 : IntKind.i64.min ≤ most) (h2 : most ≤ IntKind.i64.max) (less : Int) (h3 : IntKind.i64.min ≤ less) (h4 : less ≤ IntKind.i64.max) (nc : Bool) (c : List UInt8) (hc : c.length ≤ maxLen) (hnc : nc = true → c = []) :
    @Con Tryd.prog InflateMost_tabs n_drayagelaw04_InflateMost [.sl nl none (b.map u8), int most, int less, .sl nc none (c.map u8)] (boo true) := @InflateMost_law' inf_tabs inf_tab nl b hb hn most h1 h2 less h3 h4 nc c hc hnc
end Go.Proofs.YtokdmakljdhjiaaDoor.Aw
