/- The tables of digest lie there: from the row's condition. -/
import Derived.Test.YtmgmlbbbjjnmpaaDoorAwakeB
import Derived.Test.YtmgmlbbbjjnmpaaDoorAwR
import Derived.Test.YtmgmlbbbjjnmpaaDoorRows
import Derived.MakeChecks
import Derived.Lib.LaidTab
namespace Go.Proofs.YtmgmlbbbjjnmpaaDoor.Aw
open Go
set_option linter.unusedSimpArgs false
set_option linter.unusedVariables false

theorem cells_of_tab4 {H : Type} {enc : TypeId × Value → H} {P : Program} {w : World} {base : Nat} {sp : Nat → Bool} {held : Bool} {fuel : Nat} {t e i : TypeId} {k : IntKind} {cs : List Value} {r0 r1 r2 r3 : List Int} {p : List MemPlace}
    (ht : P.underlying t = some (.array 4 e)) (he : P.underlying e = some (.array 4 i)) (hi : P.underlying i = some (.int k)) (hci : P.cellsOf i = 1) (hce : P.cellsOf e = 4) (hct : P.cellsOf t = 16)
    (h : DataW.trod enc P w base sp held fuel t cs = some (.agg [Lib.tabData k r0, Lib.tabData k r1, Lib.tabData k r2, Lib.tabData k r3], p)) : cs = (r0 ++ r1 ++ r2 ++ r3).map fun z => Value.int k z := by
  cases fuel with
  | zero => simp [DataW.trod] at h
  | succ fuel =>
    simp only [DataW.trod, ht, hce, hct] at h
    split at h
    · rename_i hl
      obtain ⟨xs, hm, hx⟩ := Option.map_eq_some_iff.1 h
      have hxs : xs.map (·.1) = [Lib.tabData k r0, Lib.tabData k r1, Lib.tabData k r2, Lib.tabData k r3] := by
        have := congrArg Prod.fst hx
        simpa using this
      have row : ∀ (j : Nat) (r : List Int), j < 4 → [Lib.tabData (H := H) k r0, Lib.tabData k r1, Lib.tabData k r2, Lib.tabData k r3][j]? = some (Lib.tabData k r) → (cs.drop (j * 4)).take 4 = r.map fun z => Value.int k z := by
        intro j r hj hr
        obtain ⟨b, hb, hf⟩ := Lib.mapM_at hm j j (by simp [hj])
        have h2 : (xs.map (·.1))[j]? = some b.1 := by simp [hb]
        rw [hxs, hr] at h2
        have h3 := Option.some.inj h2
        have : b = (Lib.tabData k r, b.2) := by rw [h3]
        rw [this] at hf
        exact Lib.cells_of_tab he hi hci hce hf
      have q0 := row 0 r0 (by omega) rfl
      have q1 := row 1 r1 (by omega) rfl
      have q2 := row 2 r2 (by omega) rfl
      have q3 := row 3 r3 (by omega) rfl
      have hl16 : cs.length = 16 := by omega
      match cs, hl16 with
      | [a0, a1, a2, a3, a4, a5, a6, a7, a8, a9, a10, a11, a12, a13, a14, a15], _ =>
        simp only [List.map_append, ← q0, ← q1, ← q2, ← q3]
        rfl
    · cases h

theorem laid_var {P : Program} {w : World} {n : String} {d : DataW Unit} : ∀ {l : List (String × DataW Unit)} {ps : List MemPlace}, DataW.LaidVars P w l ps → (n, d) ∈ l →
    ∃ g t cs fuel p, P.globalNamed n = some g ∧ (P.globals[g]?).map (·.type) = some t ∧ w.var? P n = some cs ∧ DataW.trod (fun _ => ()) P w 0 (fun _ => true) false fuel t cs.toList = some (d, p)
  | [], _, _, hm => by simp at hm
  | (n', d') :: r, ps, h, hm => by
    obtain ⟨g, t, cs, fuel, p, q, h1, h2, h3, h4, h5, _⟩ := h
    rcases List.mem_cons.1 hm with e | hm
    · cases e; exact ⟨g, t, cs, fuel, p, h1, h2, h3, h4⟩
    · exact laid_var h5 hm

theorem ok_of {P : Program} {W : World} {n : String} {g : Nat} {cs : Array Value} (hg : P.globalNamed n = some g) (zs : List Value) (h3 : W.var? P n = some cs) (hz : cs.toList = zs) (h1 : ∀ v ∈ zs, v.oneCell' = true) :
    (all W).S g ∧ AV.free.freeL (zs.map AV.sc) = true ∧ ∃ (cs : List Value) (E : TypeId) (fr : Nat × Nat), RdL ⟨(all W).S, fun _ _ => none⟩ W (zs.map AV.sc) cs ∧ W.heap[g]? = some (Obj.cells cs.toArray E fr) ∧ ∀ v ∈ cs, v.oneCell' = true := by
  unfold World.var? at h3
  rw [hg, Option.bind_some] at h3
  split at h3
  · rename_i cs' E fr hheap
    simp only [Option.some.injEq] at h3
    subst h3
    exact ⟨lt_of_some hheap, free_sc _, zs, E, fr, rdL_sc _, by rw [hheap, ← hz], h1⟩
  · simp at h3

theorem map_w32_sc (l : List UInt32) : l.map w32 = (l.map fun x => Value.int .u32 (x.toNat : Int)).map AV.sc := by simp only [List.map_map]; rfl
theorem map_natA_sc (l : List Nat) : l.map natA = (l.map fun x : Nat => Value.int .i64 (x : Int)).map AV.sc := by simp only [List.map_map]; rfl
theorem data1 : (Rows.laid_drayage_api_Md5Table : DataW Unit) = Lib.tabData .u32 (md5Tab.map fun x => (x.toNat : Int)) := by kernel_rfl
theorem data2 : (Rows.laid_drayage_api_ShaTable : DataW Unit) = Lib.tabData .u32 (shaTab.map fun x => (x.toNat : Int)) := by kernel_rfl
theorem data3 : (Rows.laid_drayage_digest_md5Turns : DataW Unit) = .agg [Lib.tabData .i64 [7, 12, 17, 22], Lib.tabData .i64 [5, 9, 14, 20], Lib.tabData .i64 [4, 11, 16, 23], Lib.tabData .i64 [6, 10, 15, 21]] := by kernel_rfl
theorem glob1 : Tryd.prog.globalNamed "drayage/api.Md5Table" = some 0 := by kernel_rfl
theorem glob2 : Tryd.prog.globalNamed "drayage/api.ShaTable" = some 1 := by kernel_rfl
theorem glob3 : Tryd.prog.globalNamed "drayage/digest.md5Turns" = some 2 := by kernel_rfl
theorem gty1 : (Tryd.prog.globals[0]?).map (·.type) = some 54 := by kernel_rfl
theorem gty2 : (Tryd.prog.globals[1]?).map (·.type) = some 54 := by kernel_rfl
theorem gty3 : (Tryd.prog.globals[2]?).map (·.type) = some 62 := by kernel_rfl

/-- The tables that digest leans on. -/
@[reducible] def dig_tabs : Tabs Tryd.prog := ⟨fun g => if g = 0 then some (md5Tab.map w32) else if g = 1 then some (shaTab.map w32) else if g = 2 then some (turnsU.map natA) else none⟩
theorem dig_tb : @Tb md5Tab shaTab turnsU dig_tabs := @Tb.mk md5Tab shaTab turnsU dig_tabs rfl rfl rfl rfl rfl rfl
theorem dig_tabOk (W : World) (h : laidMetH Tryd.prog [("drayage/api.Md5Table", Rows.laid_drayage_api_Md5Table), ("drayage/api.ShaTable", Rows.laid_drayage_api_ShaTable), ("drayage/digest.md5Turns", Rows.laid_drayage_digest_md5Turns)] W) : @TabOk Tryd.prog dig_tabs (all W).S W := by
  rw [MakeChecks.laidMetH_plain _ _ _ (by kernel_rfl)] at h
  obtain ⟨ps, h, _⟩ := h
  obtain ⟨g1, t1, cs1, fuel1, p1, a1, b1, c1, d1⟩ := laid_var (n := "drayage/api.Md5Table") (d := Rows.laid_drayage_api_Md5Table) h (by simp)
  obtain ⟨g2, t2, cs2, fuel2, p2, a2, b2, c2, d2⟩ := laid_var (n := "drayage/api.ShaTable") (d := Rows.laid_drayage_api_ShaTable) h (by simp)
  obtain ⟨g3, t3, cs3, fuel3, p3, a3, b3, c3, d3⟩ := laid_var (n := "drayage/digest.md5Turns") (d := Rows.laid_drayage_digest_md5Turns) h (by simp)
  obtain rfl := Option.some.inj (glob1.symm.trans a1)
  obtain rfl := Option.some.inj (glob2.symm.trans a2)
  obtain rfl := Option.some.inj (glob3.symm.trans a3)
  obtain rfl := Option.some.inj (gty1.symm.trans b1)
  obtain rfl := Option.some.inj (gty2.symm.trans b2)
  obtain rfl := Option.some.inj (gty3.symm.trans b3)
  rw [data1] at d1
  rw [data2] at d2
  rw [data3] at d3
  have e1 := Lib.cells_of_tab Tryd.underlying54 Tryd.underlying24 (by kernel_rfl) (by kernel_rfl) d1
  have e2 := Lib.cells_of_tab Tryd.underlying54 Tryd.underlying24 (by kernel_rfl) (by kernel_rfl) d2
  have e3 := cells_of_tab4 Tryd.underlying62 Tryd.underlying61 Tryd.underlying3 (by kernel_rfl) (by kernel_rfl) (by kernel_rfl) d3
  intro g xs hg
  simp only [dig_tabs, Tabs.tab] at hg
  split at hg
  · rename_i e
    subst e
    cases hg
    rw [map_w32_sc]
    refine ok_of glob1 _ c1 (e1.trans (by rw [List.map_map]; rfl)) ?_
    intro v hv
    obtain ⟨z, _, rfl⟩ := List.mem_map.1 hv
    rfl
  split at hg
  · rename_i e
    subst e
    cases hg
    rw [map_w32_sc]
    refine ok_of glob2 _ c2 (e2.trans (by rw [List.map_map]; rfl)) ?_
    intro v hv
    obtain ⟨z, _, rfl⟩ := List.mem_map.1 hv
    rfl
  split at hg
  · rename_i e
    subst e
    cases hg
    rw [map_natA_sc]
    refine ok_of glob3 _ c3 (e3.trans rfl) ?_
    intro v hv
    obtain ⟨z, _, rfl⟩ := List.mem_map.1 hv
    rfl
  · simp at hg

end Go.Proofs.YtmgmlbbbjjnmpaaDoor.Aw
