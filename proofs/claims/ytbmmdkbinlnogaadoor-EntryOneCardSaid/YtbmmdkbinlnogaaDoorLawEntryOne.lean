/-
  THE LAW EntryOne: FOR EVERY INPUT THE CALL RETURNS true, AND EACH ARGUMENT READS AFTERWARDS AS IT READ BEFORE. Conditions: those of the given row alone (the listed tables of Go's library hold what the program's text lays: tied by the card).
-/
import Derived.Test.YtbmmdkbinlnogaaDoorRows
import Derived.Test.YtbmmdkbinlnogaaDoorCards
import Derived.Test.YtbmmdkbinlnogaaDoorTie
import Derived.Test.YtbmmdkbinlnogaaDoorQEoAZ
import Derived.Test.YtbmmdkbinlnogaaDoorQEoBK
namespace Go.Proofs.YtbmmdkbinlnogaaDoor.lawEntryOne
open Go Go.ChangeShapes Go.WideShapes Go.ChangeAt Go.RowKit Go.Proofs.YtbmmdkbinlnogaaDoor.Aw
set_option linter.unusedSimpArgs false
set_option linter.unusedVariables false
set_option maxRecDepth 100000

theorem own : ownKnob Tryd.prog.godebug = none := by kernel_rfl
theorem laidOut : laidOutB Tryd.prog = true := by kernel_rfl
theorem resT : Tryd.f7.resultTypes = #[4] := by kernel_rfl
theorem rec : ∀ t ∈ Tryd.f7.params.toList, Tryd.prog.readableRec t = true ∧ t < Tryd.prog.types.size := by
  intro t ht
  rw [Tryd.params7] at ht
  simp only [List.mem_cons, List.not_mem_nil, or_false] at ht
  rcases ht with rfl | rfl
  all_goals exact ⟨by kernel_rfl, of_decide_eq_true (by kernel_rfl)⟩

theorem contract (H : Type) (enc : TypeId × Value → H) (W : World) (base : Nat) (args : Array Value) (ds gs : List (DataW H)) (before : List MemPlace)
    (hval : ∀ (j : Nat) t v, Tryd.f7.params[j]? = some t → args[j]? = some v → Value.okWide Tryd.prog W .any base t v)
    (hW : DataW.Whole enc Tryd.prog Tryd.f7.params.toList Rows.entryOneSpec.vars false W args.toList ds gs before) (hlaid : laidMetH Tryd.prog Rows.entryOneRow.laid W) :
    Calls Tryd.prog 7 args W fun e W' => ∃ v, e = .returned v ∧ Rows.entryOneSpec.post enc Tryd.prog Tryd.f7 false true false false W args v W' := by
  have hW' := hW
  obtain ⟨p, q, hA, hV, hp, hfz, hnd⟩ := hW
  rw [Tryd.params7] at hA hval
  obtain ⟨v0, vs0, d0, ds0, p0, q0, ha0, hd0, hq0, h0, r0⟩ := trodAll_cons hA
  obtain ⟨v1, vs1, d1, ds1, p1, q1, ha1, hd1, hq1, h1, r1⟩ := trodAll_cons r0
  obtain ⟨he1, he2, he3⟩ := trodAll_nil r1
  obtain rfl : args = #[v0, v1] := by cases args; simp_all
  obtain rfl : ds = [d0, d1] := by simp_all
  obtain ⟨x0, hr0, hb0⟩ := arg_slice Tryd.underlying29 (opens_sliceS (s := 10) Tryd.underlying29 (by kernel_rfl) (by decide) (opens_struct (tot := 10) Tryd.underlying28 (by kernel_rfl) (opens_fcons (m := 1) rfl (by kernel_rfl) (opens_string Tryd.underlying9) (opens_fcons (m := 1) rfl (by kernel_rfl) (opens_int Tryd.underlying3) (opens_fcons (m := 1) rfl (by kernel_rfl) (opens_int Tryd.underlying3) (opens_fcons (m := 1) rfl (by kernel_rfl) (opens_int Tryd.underlying3) (opens_fcons (m := 1) rfl (by kernel_rfl) (opens_int Tryd.underlying3) (opens_fcons (m := 1) rfl (by kernel_rfl) (opens_string Tryd.underlying9) (opens_fcons (m := 1) rfl (by kernel_rfl) (opens_string Tryd.underlying9) (opens_fcons (m := 1) rfl (by kernel_rfl) (opens_int Tryd.underlying3) (opens_fcons (m := 1) rfl (by kernel_rfl) (opens_string Tryd.underlying9) (opens_fcons (m := 1) rfl (by kernel_rfl) (opens_slice1 Tryd.underlying26 (by kernel_rfl) (opens_u8 Tryd.underlying5)) opens_fnil)))))))))))) (hval 0 29 v0 rfl rfl) h0
  obtain ⟨x1, hr1, hb1⟩ := arg_slice Tryd.underlying41 (opens_slice1 Tryd.underlying41 (by kernel_rfl) (opens_int Tryd.underlying3)) (hval 1 41 v1 rfl rfl) h1
  refine law_post (f := 7) (fn := Tryd.f7) laidOut rfl resT Tryd.underlying4 rec hW' rfl ?_
  letI : Tabs Tryd.prog := ⟨fun _ => none⟩
  have hc := EntryOne_law x0 hb0 x1 hb1 W (all W).S [v0, v1] (fun _ _ h => by cases h) (fun _ h => h) (by
    simp only [RdL]
    exact ⟨v0, _, rfl, hr0, ⟨v1, _, rfl, hr1, rfl⟩⟩)
  exact hc

/-- The cells of a datum. -/
def flatD : DataW Unit → List Value
  | .lit (.int k n) => [.int k n]
  | .lit (.bool b) => [.bool b]
  | .lit (.string l) => [.string ⟨l.toArray⟩]
  | .agg ps => flatDs ps
  | _ => []
where flatDs : List (DataW Unit) → List Value
  | [] => []
  | d :: r => flatD d ++ flatDs r

def putCells (cs : List Value) : Obj → Obj
  | .cells _ t frozen => .cells cs.toArray t frozen
  | o => o
noncomputable def laidHeap (os : Os) : Array Obj :=
  Rows.entryOneRow.laid.foldl (fun h p => h.modify ((Tryd.prog.globalNamed p.1).getD 0) (putCells (flatD p.2))) (World.holding Tryd.prog os ⟨#[], #[], []⟩).heap
noncomputable def laidWorld (os : Os) : World := { World.holding Tryd.prog os ⟨#[], #[], []⟩ with heap := laidHeap os }
abbrev wargs : Array Value := #[.slice none 0 0, .slice none 0 0]
theorem laid_met (os : Os) : laidMetH Tryd.prog Rows.entryOneRow.laid ((laidWorld os).forCall (fun _ _ => 0) ⟨#[], wargs, []⟩).memory :=
  laidMet_of_run' 8 (by kernel_rfl) (by kernel_rfl)
theorem reads (os : Os) {H : Type} (enc : TypeId × Value → H) : ∃ places, DataW.whole enc Tryd.prog ((laidWorld os).forCall (fun _ _ => 0) ⟨#[], wargs, []⟩).memory Tryd.f7.params.toList Rows.entryOneSpec.vars false wargs.toList 8 = some ([.nil, .nil], [], places) :=
  ⟨[], by kernel_rfl⟩

set_option maxRecDepth 100000 in
theorem lifted (os : Os) (started : os.Started) (H : Type) (enc : TypeId × Value → H) (F : Stop.Interp) :
    ReturnsInHanded {} Tryd.checked os 7 .any ((OpenSpec.ofChange Rows.entryOneSpec).preRow enc Tryd.prog Tryd.f7 Rows.entryOneRow.domain false Rows.entryOneRow.laid) (((OpenSpec.ofChange Rows.entryOneSpec).at F).post enc Tryd.prog Tryd.f7 false true false false) := by
  obtain ⟨places, hx⟩ := reads os enc
  refine returnsInHanded_of_row (C := Tryd.checked) (s := OpenSpec.ofChange Rows.entryOneSpec) own started (by kernel_rfl) Tryd.func7
    (witness_row_at (enc := enc) (C := Tryd.checked) false (laidWorld os) wargs rfl (by kernel_rfl) (by kernel_rfl) (by kernel_rfl)
      (OpenSpec.preRow_of_cond 8 hx (by kernel_rfl) (fun k hk => by cases hk) (by kernel_rfl) (laid_met os))) ?_
  intro W base args ds gs before hval hW _ _ _ hlaid _ _
  exact contract H enc W base args ds gs before hval hW hlaid

theorem said : Rows.EntryOneSaid :=
  OpenClaim.holds_of_cond 7 Tryd.f7 rfl rfl rfl rfl rfl rfl rfl ⟨rfl, rfl, rfl, rfl, rfl⟩ rfl rfl rfl rfl rfl (by kernel_rfl) Tryd.func7 (by kernel_rfl)
    (of_decide_eq_true (by kernel_rfl)) (by unfold Func.isWrapper; first | (rw [if_pos (by decide +kernel)]; kernel_rfl) | (rw [if_neg (by decide +kernel)]; exact ⟨rfl, rfl⟩))
    (fun os started H enc _ F => by rw [OpenClaim.pre_eq_preRow]; exact lifted os started H enc F)

theorem plain (f : FuncId) (fn : Func) (hf : Tryd.pinned.checked.prog.funcNamed "drayage/drayagelaw07.EntryOne" = some f) (hfn : Tryd.pinned.checked.prog.funcs[f]? = some fn) :
    false = Tryd.pinned.checked.prog.looks [] ∧ ∀ (j : Nat) t, fn.params[j]? = some t → Tryd.pinned.checked.prog.wantsStandIn t = false := by
  obtain rfl : f = 7 := Option.some.inj ((show Tryd.prog.funcNamed "drayage/drayagelaw07.EntryOne" = some 7 by kernel_rfl).symm.trans hf) |>.symm
  obtain rfl : fn = Tryd.f7 := (Option.some.inj (Tryd.func7.symm.trans hfn)).symm
  refine ⟨by kernel_rfl, fun j t ht => ?_⟩
  rw [Tryd.params7] at ht
  have hm := Array.mem_of_getElem? ht
  simp only [List.mem_toArray, List.mem_cons, List.not_mem_nil, or_false] at hm
  rcases hm with rfl | rfl
  all_goals first
    | exact (show Tryd.prog.wantsStandIn 29 = false by kernel_rfl)
    | exact (show Tryd.prog.wantsStandIn 41 = false by kernel_rfl)

theorem card : Rows.EntryOneCardSaid :=
  Claim7.holds_tied_plain_at .later [] _ _ _ _ said (fun _ h => by cases h) (by kernel_rfl) (fun _ h => by cases h) entryOne_row_tie rfl ⟨rfl, rfl⟩ (by kernel_rfl) rfl plain (by kernel_rfl)
end Go.Proofs.YtbmmdkbinlnogaaDoor.lawEntryOne
