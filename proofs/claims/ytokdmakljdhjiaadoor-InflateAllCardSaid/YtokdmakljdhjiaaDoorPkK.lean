/- What stage 4's laws ask first. -/
import Derived.Test.YtokdmakljdhjiaaDoorInfL
import Derived.Test.YtokdmakljdhjiaaDoorPkC
import Derived.Test.YtokdmakljdhjiaaDoorAwR
import Derived.Test.YtokdmakljdhjiaaDoorRows
import Derived.MakeChecks
import Derived.Lib.LaidTab
import Derived.Test.YtokdmakljdhjiaaDoorRfiI
namespace Go.Proofs.YtokdmakljdhjiaaDoor.Aw
open Go
set_option linter.unusedSimpArgs false
set_option linter.unusedVariables false

theorem aw4_a : infR 60 [1, 1, 0, 254, 255, 97] 10 = ([97], 6, 0) := by decide +kernel
theorem aw4_b : infR 60 [75, 4, 0, 9] 10 = ([97], 3, 0) := by decide +kernel
theorem infA_nat {F : Nat} {b : List UInt8} {m : Nat} (h : m ≤ 16777216) : infA F b (m : Int) = infR F b m := by rw [infA, if_neg (by omega), Int.toNat_natCast]

set_option maxRecDepth 100000 in
theorem law04_awake_c [Tabs Tryd.prog] (ht : Tabs.tab Tryd.prog 0 = some (tells.map nA)) : Con Tryd.prog n_drayagelaw04_awake [] (boo true) := by
  refine Con.of' mix Tryd.func6 rfl Tryd.ntmps6 e_drayagelaw04_awake r_drayagelaw04_awake (by simp) rfl rfl ?_
  unfold s_drayagelaw04_awake
  have p1 := inf_Inflate_c ht false [1, 1, 0, 254, 255, 97] (by simp) (by simp) ((10 : Nat) : Int) 60 (by simp)
  have p2 := inf_Inflate_c ht false [75, 4, 0, 9] (by simp) (by simp) ((10 : Nat) : Int) 60 (by simp)
  rw [infA_nat (by omega), aw4_a] at p1
  rw [infA_nat (by omega), aw4_b] at p2
  have g1 : gotA ([97], 6, 0) = .tup [.sl false none [.sc (.int .u8 97)], int 6, int 0] := rfl
  have g2 : gotA ([97], 3, 0) = .tup [.sl false none [.sc (.int .u8 97)], int 3, int 0] := rfl
  rw [g1] at p1
  rw [g2] at p2
  repeat (first | refine wA ?_ | refine wB ?_ | refine wC rfl ?_ | refine wD rfl ?_ | refine wE ?_ | refine wF (by omega) ?_ | ((first | refine wG ?_ | refine wH ?_ | refine wI ?_ | refine wJ ?_ | refine wK ?_ | refine wL ?_); simp (disch := omega) only [wP, wZ, undef, seval, if_pos, if_neg, aStore, frz, AV.flat, ↓reduceIte, ne_eq, reduceCtorEq, ByteArray.size]))
  refine goC_f 8 0 (nl := false) (cells := [1, 1, 0, 254, 255, 97].map u8) [.sl false none ([1, 1, 0, 254, 255, 97].map u8), int ((10 : Nat) : Int)] _ (by simp (disch := omega) only [wP, wZ, undef, seval, if_pos, if_neg, aStore, frz, AV.flat, ↓reduceIte, ne_eq, reduceCtorEq, ByteArray.size]) (by simp (disch := omega) only [wP, wZ, undef, seval, if_pos, if_neg, aStore, frz, AV.flat, ↓reduceIte, ne_eq, reduceCtorEq, ByteArray.size]) ?_ (by simp (disch := omega) only [wP, wZ, undef, seval, if_pos, if_neg, aStore, frz, AV.flat, ↓reduceIte, ne_eq, reduceCtorEq, ByteArray.size]) p1 ?_
  · simp (disch := omega) only [wP, wZ, undef, seval, if_pos, if_neg, aStore, frz, AV.flat, ↓reduceIte, ne_eq, reduceCtorEq, ByteArray.size, fR]
  repeat (first | refine wA ?_ | refine wB ?_ | refine wC rfl ?_ | refine wD rfl ?_ | refine wE ?_ | refine wF (by omega) ?_ | ((first | refine wG ?_ | refine wH ?_ | refine wI ?_ | refine wJ ?_ | refine wK ?_ | refine wL ?_); simp (disch := omega) only [wP, wZ, undef, seval, if_pos, if_neg, aStore, frz, AV.flat, ↓reduceIte, ne_eq, reduceCtorEq, ByteArray.size]))
  refine goC_f 14 1 (nl := false) (cells := [75, 4, 0, 9].map u8) [.sl false none ([75, 4, 0, 9].map u8), int ((10 : Nat) : Int)] _ (by simp (disch := omega) only [wP, wZ, undef, seval, if_pos, if_neg, aStore, frz, AV.flat, ↓reduceIte, ne_eq, reduceCtorEq, ByteArray.size]) (by simp (disch := omega) only [wP, wZ, undef, seval, if_pos, if_neg, aStore, frz, AV.flat, ↓reduceIte, ne_eq, reduceCtorEq, ByteArray.size]) ?_ (by simp (disch := omega) only [wP, wZ, undef, seval, if_pos, if_neg, aStore, frz, AV.flat, ↓reduceIte, ne_eq, reduceCtorEq, ByteArray.size]) p2 ?_
  · simp (disch := omega) only [wP, wZ, undef, seval, if_pos, if_neg, aStore, frz, AV.flat, ↓reduceIte, ne_eq, reduceCtorEq, ByteArray.size, fR]
  have hu : unu8 (AV.sc (.int .u8 97)) = 97 := rfl
  repeat (first | refine wA ?_ | refine wB ?_ | refine wC rfl ?_ | refine wD rfl ?_ | refine wE ?_ | refine wF (by omega) ?_ | ((first | refine wG ?_ | refine wH ?_ | refine wI ?_ | refine wJ ?_ | refine wK ?_ | refine wL ?_); simp (disch := omega) only [wP, wZ, undef, seval, if_pos, if_neg, aStore, frz, AV.flat, ↓reduceIte, ne_eq, reduceCtorEq, ByteArray.size, hu]))

end Go.Proofs.YtokdmakljdhjiaaDoor.Aw

namespace Go.Proofs.YtokdmakljdhjiaaDoor.Aw
open Go
set_option linter.unusedSimpArgs false
set_option linter.unusedVariables false

theorem laid_var {P : Program} {w : World} {n : String} {d : DataW Unit} : ∀ {l : List (String × DataW Unit)} {ps : List MemPlace}, DataW.LaidVars P w l ps → (n, d) ∈ l →
    ∃ g t cs fuel p, P.globalNamed n = some g ∧ (P.globals[g]?).map (·.type) = some t ∧ w.var? P n = some cs ∧ DataW.trod (fun _ => ()) P w 0 (fun _ => true) false fuel t cs.toList = some (d, p)
  | [], _, _, hm => by simp at hm
  | (n', d') :: r, ps, h, hm => by
    obtain ⟨g, t, cs, fuel, p, q, h1, h2, h3, h4, h5, _⟩ := h
    rcases List.mem_cons.1 hm with e | hm
    · cases e; exact ⟨g, t, cs, fuel, p, h1, h2, h3, h4⟩
    · exact laid_var h5 hm

theorem ok_of {P : Program} {W : World} {n : String} {g : Nat} {cs : Array Value} (hg : P.globalNamed n = some g) (zs : List Value) (h3 : W.var? P n = some cs) (hz : cs.toList = zs) (h1 : ∀ v ∈ zs, v.oneCell' = true) :
    (all W).S g ∧ AV.free.freeL (zs.map AV.sc) = true ∧ ∃ (cs : List Value) (E : TypeId) (fr : Nat × Nat), RdL ⟨(all W).S, fun _ _ => none⟩ W (zs.map AV.sc) cs ∧ W.heap[g]? = some (Obj.cells cs.toArray E fr) ∧ ∀ v ∈ cs, v.oneCell' = true := by
  unfold World.var? at h3
  rw [hg, Option.bind_some] at h3
  split at h3
  · rename_i cs' E fr hheap
    simp only [Option.some.injEq] at h3
    subst h3
    exact ⟨lt_of_some hheap, free_sc _, zs, E, fr, rdL_sc _, by rw [hheap, ← hz], h1⟩
  · simp at h3

theorem map_nA_sc (l : List Nat) : l.map nA = (l.map fun x : Nat => Value.int .i64 (x : Int)).map AV.sc := by simp only [List.map_map]; rfl
theorem dataT : (Rows.laid_drayage_inflate_tellers : DataW Unit) = Lib.tabData .i64 (tells.map fun x : Nat => (x : Int)) := by kernel_rfl
theorem globT : Tryd.prog.globalNamed "drayage/inflate.tellers" = some 0 := by kernel_rfl
theorem gtyT : (Tryd.prog.globals[0]?).map (·.type) = some 100 := by kernel_rfl

/-- The table that inflate leans on. -/
@[reducible] def inf_tabs : Tabs Tryd.prog := ⟨fun g => if g = 0 then some (tells.map nA) else none⟩
theorem inf_tab : @Tabs.tab Tryd.prog inf_tabs 0 = some (tells.map nA) := rfl
theorem inf_tabOk (W : World) (h : laidMetH Tryd.prog [("drayage/inflate.tellers", Rows.laid_drayage_inflate_tellers)] W) : @TabOk Tryd.prog inf_tabs (all W).S W := by
  rw [MakeChecks.laidMetH_plain _ _ _ (by kernel_rfl)] at h
  obtain ⟨ps, h, _⟩ := h
  obtain ⟨g1, t1, cs1, fuel1, p1, a1, b1, c1, d1⟩ := laid_var (n := "drayage/inflate.tellers") (d := Rows.laid_drayage_inflate_tellers) h (by simp)
  obtain rfl := Option.some.inj (globT.symm.trans a1)
  obtain rfl := Option.some.inj (gtyT.symm.trans b1)
  rw [dataT] at d1
  have e1 := Lib.cells_of_tab Tryd.underlying100 Tryd.underlying3 (by kernel_rfl) (by kernel_rfl) d1
  intro g xs hg
  simp only [inf_tabs, Tabs.tab] at hg
  split at hg
  · rename_i e
    subst e
    cases hg
    rw [map_nA_sc]
    refine ok_of globT _ c1 (e1.trans (by rw [List.map_map]; rfl)) ?_
    intro v hv
    obtain ⟨z, _, rfl⟩ := List.mem_map.1 hv
    rfl
  · simp at hg

end Go.Proofs.YtokdmakljdhjiaaDoor.Aw

namespace Go.Proofs.YtokdmakljdhjiaaDoor.Aw
open Go
set_option linter.unusedSimpArgs false
set_option linter.unusedVariables false

theorem infR_two {b : List UInt8} {m F : Nat} : (∃ e, infR F b m = ([], 0, e) ∧ e ≠ 0) ∨ ∃ o u, infR F b m = (o, u, 0) := by
  unfold infR
  cases h : (infT m F F []).run (bitsL b) 0 with
  | no e => exact .inl ⟨e, rfl, (safe_run (safe_inf _ _) h).1⟩
  | ok o j => exact .inr ⟨o, (j + 7) / 8, rfl⟩
theorem infA_two {F : Nat} {b : List UInt8} {most : Int} : (∃ e, infA F b most = ([], 0, e) ∧ e ≠ 0) ∨ ∃ o u, infA F b most = (o, u, 0) := by
  unfold infA
  split
  · exact .inl ⟨1, rfl, by simp⟩
  · exact infR_two

set_option maxHeartbeats 1000000 in
set_option maxRecDepth 100000 in
theorem InflateAll_law' [Tabs Tryd.prog] (ht : Tabs.tab Tryd.prog 0 = some (tells.map nA)) (nl : Bool) (b : List UInt8) (hb : b.length ≤ maxLen) (hn : nl = true → b = []) (most : Int) (h1 : IntKind.i64.min ≤ most) (h2 : most ≤ IntKind.i64.max) :
    Con Tryd.prog n_drayagelaw04_InflateAll [.sl nl none (b.map u8), int most] (boo true) := by
  refine Con.of' mix Tryd.func3 rfl Tryd.ntmps3 e_drayagelaw04_InflateAll r_drayagelaw04_InflateAll (by simp) (by simp only [AV.free, AV.free.freeL, free_u8, int, Bool.and_self]) rfl ?_
  unfold s_drayagelaw04_InflateAll
  have hf : AV.free.freeL [.sl nl none (b.map u8), int most] = true := by simp only [AV.free, AV.free.freeL, free_u8, int, Bool.and_self]
  repeat (first | refine wA ?_ | refine wB ?_ | refine wC rfl ?_ | refine wD rfl ?_ | refine wE ?_ | refine wF (by omega) ?_ | ((first | refine wG ?_ | refine wH ?_ | refine wI ?_ | refine wJ ?_ | refine wK ?_ | refine wL ?_); simp (disch := omega) only [wP, wZ, undef, seval, if_pos, if_neg, aStore, frz, AV.flat, ↓reduceIte, ne_eq, reduceCtorEq, ByteArray.size]))
  refine goC_p _ (.inl ⟨rfl, law04_awake_c ht⟩) ?_
  by_cases c1 : 300 < b.length
  · have d1 : decide ((300 : Int) < (b.length : Int)) = true := decide_eq_true (by omega)
    repeat (first | refine wA ?_ | refine wB ?_ | refine wC rfl ?_ | refine wD rfl ?_ | refine wE ?_ | refine wF (by omega) ?_ | ((first | refine wG ?_ | refine wH ?_ | refine wI ?_ | refine wJ ?_ | refine wK ?_ | refine wL ?_); simp (disch := omega) only [wP, wZ, undef, seval, if_pos, if_neg, aStore, frz, AV.flat, ↓reduceIte, ne_eq, reduceCtorEq, ByteArray.size, d1]))
  have d1 : decide ((300 : Int) < (b.length : Int)) = false := decide_eq_false (by omega)
  have p1 := inf_Inflate_c ht nl b (by omega) hn most 5000 (by omega)
  have p2 := rf_Inflate_c nl b (by omega) most 5000 (by omega)
  rcases infA_two (F := 5000) (b := b) (most := most) with ⟨e, hr, he⟩ | ⟨o, u, hr⟩
  · rw [hr, gotA, if_neg he] at p1
    rw [hr, gotG_no he] at p2
    have e1 : decide ((e : Int) = (e : Int)) = true := decide_eq_true rfl
    by_cases c2 : 5000 < most
    · have d2 := decide_eq_true c2
      by_cases c3 : most ≤ 16777216
      · have d3 := decide_eq_true c3
        repeat (first | refine wA ?_ | refine wB ?_ | refine wC rfl ?_ | refine wD rfl ?_ | refine wE ?_ | refine wF (by omega) ?_ | ((first | refine wG ?_ | refine wH ?_ | refine wI ?_ | refine wJ ?_ | refine wK ?_ | refine wL ?_); simp (disch := omega) only [wP, wZ, undef, seval, if_pos, if_neg, aStore, frz, AV.flat, ↓reduceIte, ne_eq, reduceCtorEq, ByteArray.size, d1, d2, d3]))
      · have d3 := decide_eq_false c3
        repeat (first | refine wA ?_ | refine wB ?_ | refine wC rfl ?_ | refine wD rfl ?_ | refine wE ?_ | refine wF (by omega) ?_ | ((first | refine wG ?_ | refine wH ?_ | refine wI ?_ | refine wJ ?_ | refine wK ?_ | refine wL ?_); simp (disch := omega) only [wP, wZ, undef, seval, if_pos, if_neg, aStore, frz, AV.flat, ↓reduceIte, ne_eq, reduceCtorEq, ByteArray.size, d1, d2, d3]))
        refine goC_p _ (.inl ⟨hf, p1⟩) ?_
        repeat (first | refine wA ?_ | refine wB ?_ | refine wC rfl ?_ | refine wD rfl ?_ | refine wE ?_ | refine wF (by omega) ?_ | ((first | refine wG ?_ | refine wH ?_ | refine wI ?_ | refine wJ ?_ | refine wK ?_ | refine wL ?_); simp (disch := omega) only [wP, wZ, undef, seval, if_pos, if_neg, aStore, frz, AV.flat, ↓reduceIte, ne_eq, reduceCtorEq, ByteArray.size]))
        refine goC_p _ (.inl ⟨hf, p2⟩) ?_
        repeat (first | refine wA ?_ | refine wB ?_ | refine wC rfl ?_ | refine wD rfl ?_ | refine wE ?_ | refine wF (by omega) ?_ | ((first | refine wG ?_ | refine wH ?_ | refine wI ?_ | refine wJ ?_ | refine wK ?_ | refine wL ?_); simp (disch := omega) only [wP, wZ, undef, seval, if_pos, if_neg, aStore, frz, AV.flat, ↓reduceIte, ne_eq, reduceCtorEq, ByteArray.size, e1]))
        all_goals trace_state
    · have d2 := decide_eq_false c2
      repeat (first | refine wA ?_ | refine wB ?_ | refine wC rfl ?_ | refine wD rfl ?_ | refine wE ?_ | refine wF (by omega) ?_ | ((first | refine wG ?_ | refine wH ?_ | refine wI ?_ | refine wJ ?_ | refine wK ?_ | refine wL ?_); simp (disch := omega) only [wP, wZ, undef, seval, if_pos, if_neg, aStore, frz, AV.flat, ↓reduceIte, ne_eq, reduceCtorEq, ByteArray.size, d1, d2]))
      refine goC_p _ (.inl ⟨hf, p1⟩) ?_
      repeat (first | refine wA ?_ | refine wB ?_ | refine wC rfl ?_ | refine wD rfl ?_ | refine wE ?_ | refine wF (by omega) ?_ | ((first | refine wG ?_ | refine wH ?_ | refine wI ?_ | refine wJ ?_ | refine wK ?_ | refine wL ?_); simp (disch := omega) only [wP, wZ, undef, seval, if_pos, if_neg, aStore, frz, AV.flat, ↓reduceIte, ne_eq, reduceCtorEq, ByteArray.size]))
      refine goC_p _ (.inl ⟨hf, p2⟩) ?_
      repeat (first | refine wA ?_ | refine wB ?_ | refine wC rfl ?_ | refine wD rfl ?_ | refine wE ?_ | refine wF (by omega) ?_ | ((first | refine wG ?_ | refine wH ?_ | refine wI ?_ | refine wJ ?_ | refine wK ?_ | refine wL ?_); simp (disch := omega) only [wP, wZ, undef, seval, if_pos, if_neg, aStore, frz, AV.flat, ↓reduceIte, ne_eq, reduceCtorEq, ByteArray.size, e1]))
      all_goals trace_state
  · rw [hr, gotA, if_pos rfl] at p1
    rw [hr, gotG_ok] at p2
    have e1 : decide (o = o) = true := decide_eq_true rfl
    have e2 : decide ((u : Int) = (u : Int)) = true := decide_eq_true rfl
    by_cases c2 : 5000 < most
    · have d2 := decide_eq_true c2
      by_cases c3 : most ≤ 16777216
      · have d3 := decide_eq_true c3
        repeat (first | refine wA ?_ | refine wB ?_ | refine wC rfl ?_ | refine wD rfl ?_ | refine wE ?_ | refine wF (by omega) ?_ | ((first | refine wG ?_ | refine wH ?_ | refine wI ?_ | refine wJ ?_ | refine wK ?_ | refine wL ?_); simp (disch := omega) only [wP, wZ, undef, seval, if_pos, if_neg, aStore, frz, AV.flat, ↓reduceIte, ne_eq, reduceCtorEq, ByteArray.size, d1, d2, d3]))
      · have d3 := decide_eq_false c3
        repeat (first | refine wA ?_ | refine wB ?_ | refine wC rfl ?_ | refine wD rfl ?_ | refine wE ?_ | refine wF (by omega) ?_ | ((first | refine wG ?_ | refine wH ?_ | refine wI ?_ | refine wJ ?_ | refine wK ?_ | refine wL ?_); simp (disch := omega) only [wP, wZ, undef, seval, if_pos, if_neg, aStore, frz, AV.flat, ↓reduceIte, ne_eq, reduceCtorEq, ByteArray.size, d1, d2, d3]))
        refine goC_p _ (.inl ⟨hf, p1⟩) ?_
        repeat (first | refine wA ?_ | refine wB ?_ | refine wC rfl ?_ | refine wD rfl ?_ | refine wE ?_ | refine wF (by omega) ?_ | ((first | refine wG ?_ | refine wH ?_ | refine wI ?_ | refine wJ ?_ | refine wK ?_ | refine wL ?_); simp (disch := omega) only [wP, wZ, undef, seval, if_pos, if_neg, aStore, frz, AV.flat, ↓reduceIte, ne_eq, reduceCtorEq, ByteArray.size]))
        refine goC_p _ (.inl ⟨hf, p2⟩) ?_
        repeat (first | refine wA ?_ | refine wB ?_ | refine wC rfl ?_ | refine wD rfl ?_ | refine wE ?_ | refine wF (by omega) ?_ | ((first | refine wG ?_ | refine wH ?_ | refine wI ?_ | refine wJ ?_ | refine wK ?_ | refine wL ?_); simp (disch := omega) only [wP, wZ, undef, seval, if_pos, if_neg, aStore, frz, AV.flat, ↓reduceIte, ne_eq, reduceCtorEq, ByteArray.size, e1, e2]))
        all_goals trace_state
    · have d2 := decide_eq_false c2
      repeat (first | refine wA ?_ | refine wB ?_ | refine wC rfl ?_ | refine wD rfl ?_ | refine wE ?_ | refine wF (by omega) ?_ | ((first | refine wG ?_ | refine wH ?_ | refine wI ?_ | refine wJ ?_ | refine wK ?_ | refine wL ?_); simp (disch := omega) only [wP, wZ, undef, seval, if_pos, if_neg, aStore, frz, AV.flat, ↓reduceIte, ne_eq, reduceCtorEq, ByteArray.size, d1, d2]))
      refine goC_p _ (.inl ⟨hf, p1⟩) ?_
      repeat (first | refine wA ?_ | refine wB ?_ | refine wC rfl ?_ | refine wD rfl ?_ | refine wE ?_ | refine wF (by omega) ?_ | ((first | refine wG ?_ | refine wH ?_ | refine wI ?_ | refine wJ ?_ | refine wK ?_ | refine wL ?_); simp (disch := omega) only [wP, wZ, undef, seval, if_pos, if_neg, aStore, frz, AV.flat, ↓reduceIte, ne_eq, reduceCtorEq, ByteArray.size]))
      refine goC_p _ (.inl ⟨hf, p2⟩) ?_
      repeat (first | refine wA ?_ | refine wB ?_ | refine wC rfl ?_ | refine wD rfl ?_ | refine wE ?_ | refine wF (by omega) ?_ | ((first | refine wG ?_ | refine wH ?_ | refine wI ?_ | refine wJ ?_ | refine wK ?_ | refine wL ?_); simp (disch := omega) only [wP, wZ, undef, seval, if_pos, if_neg, aStore, frz, AV.flat, ↓reduceIte, ne_eq, reduceCtorEq, ByteArray.size, e1, e2]))
      all_goals trace_state

@[reducible] def InflateAll_tabs : Tabs Tryd.prog := inf_tabs
theorem InflateAll_tabOk (W : World) (h : laidMetH Tryd.prog Rows.inflateAllRow.laid W) : @TabOk Tryd.prog InflateAll_tabs (all W).S W := inf_tabOk W h
theorem InflateAll_law (nl : Bool) (b : List UInt8) (hb : b.length ≤ maxLen) (hn : nl = true → b = []) (most : Int) (h1 : IntKind.i64.min ≤ most) (h2 : most ≤ IntKind.i64.max) :
    @Con Tryd.prog InflateAll_tabs n_drayagelaw04_InflateAll [.sl nl none (b.map u8), int most] (boo true) := @InflateAll_law' inf_tabs inf_tab nl b hb hn most h1 h2
end Go.Proofs.YtokdmakljdhjiaaDoor.Aw
