/-
  THE LAW HuffLengths: FOR EVERY INPUT THE CALL RETURNS true, AND EACH ARGUMENT READS AFTERWARDS AS IT READ BEFORE. Conditions: those of the given row alone (the listed tables of Go's library hold what the program's text lays: tied by the card).
-/
import Derived.Test.YtbmppmdklappiaaRows
import Derived.Test.YtbmppmdklappiaaQHuffLengthsAU
import Derived.Test.YtbmppmdklappiaaQHuffLengthsBF
namespace Go.Proofs.Ytbmppmdklappiaa.lawHuffLengths
open Go Go.ChangeShapes Go.WideShapes Go.ChangeAt Go.RowKit Go.Proofs.Ytbmppmdklappiaa.Aw
set_option linter.unusedSimpArgs false
set_option linter.unusedVariables false
set_option maxRecDepth 100000

theorem own : ownKnob Try.prog.godebug = none := by kernel_rfl
theorem laidOut : laidOutB Try.prog = true := by kernel_rfl
theorem resT : Try.f7.resultTypes = #[4] := by kernel_rfl
theorem rec : ∀ t ∈ Try.f7.params.toList, Try.prog.readableRec t = true ∧ t < Try.prog.types.size := by
  intro t ht
  rw [Try.params7] at ht
  simp only [List.mem_cons, List.not_mem_nil, or_false] at ht
  rcases ht with rfl | rfl
  all_goals exact ⟨by kernel_rfl, of_decide_eq_true (by kernel_rfl)⟩

theorem contract (H : Type) (enc : TypeId × Value → H) (W : World) (base : Nat) (args : Array Value) (ds gs : List (DataW H)) (before : List MemPlace)
    (hval : ∀ (j : Nat) t v, Try.f7.params[j]? = some t → args[j]? = some v → Value.okWide Try.prog W .any base t v)
    (hW : DataW.Whole enc Try.prog Try.f7.params.toList Rows.huffLengthsSpec.vars false W args.toList ds gs before) (hlaid : laidMetH Try.prog Rows.huffLengthsRow.laid W) :
    Calls Try.prog 7 args W fun e W' => ∃ v, e = .returned v ∧ Rows.huffLengthsSpec.post enc Try.prog Try.f7 false true false false W args v W' := by
  have hW' := hW
  obtain ⟨p, q, hA, hV, hp, hfz, hnd⟩ := hW
  rw [Try.params7] at hA hval
  obtain ⟨v0, vs0, d0, ds0, p0, q0, ha0, hd0, hq0, h0, r0⟩ := trodAll_cons hA
  obtain ⟨v1, vs1, d1, ds1, p1, q1, ha1, hd1, hq1, h1, r1⟩ := trodAll_cons r0
  obtain ⟨he1, he2, he3⟩ := trodAll_nil r1
  obtain rfl : args = #[v0, v1] := by cases args; simp_all
  obtain rfl : ds = [d0, d1] := by simp_all
  obtain ⟨x0, hr0, hb0⟩ := arg_slice Try.underlying27 (opens_slice1 Try.underlying27 (by kernel_rfl) (opens_int Try.underlying3)) (hval 0 27 v0 rfl rfl) h0
  obtain ⟨x1, hr1, hb1, hc1⟩ := arg_int Try.underlying3 (hval 1 3 v1 rfl rfl) h1
  refine law_post (f := 7) (fn := Try.f7) laidOut rfl resT Try.underlying4 rec hW' rfl ?_
  letI : Tabs Try.prog := ⟨fun _ => none⟩
  have hc := HuffLengths_law x0 hb0 x1 hb1 hc1 W (all W).S [v0, v1] (fun _ _ h => by cases h) (fun _ h => h) (by
    simp only [RdL]
    exact ⟨v0, _, rfl, hr0, ⟨v1, _, rfl, hr1, rfl⟩⟩)
  exact hc

/-- The cells of a datum. -/
def flatD : DataW Unit → List Value
  | .lit (.int k n) => [.int k n]
  | .lit (.bool b) => [.bool b]
  | .lit (.string l) => [.string ⟨l.toArray⟩]
  | .agg ps => flatDs ps
  | _ => []
where flatDs : List (DataW Unit) → List Value
  | [] => []
  | d :: r => flatD d ++ flatDs r

def putCells (cs : List Value) : Obj → Obj
  | .cells _ t frozen => .cells cs.toArray t frozen
  | o => o
noncomputable def laidHeap (os : Os) : Array Obj :=
  Rows.huffLengthsRow.laid.foldl (fun h p => h.modify ((Try.prog.globalNamed p.1).getD 0) (putCells (flatD p.2))) (World.holding Try.prog os ⟨#[], #[], []⟩).heap
noncomputable def laidWorld (os : Os) : World := { World.holding Try.prog os ⟨#[], #[], []⟩ with heap := laidHeap os }
abbrev wargs : Array Value := #[.slice none 0 0, .int .i64 0]
theorem laid_met (os : Os) : laidMetH Try.prog Rows.huffLengthsRow.laid ((laidWorld os).forCall (fun _ _ => 0) ⟨#[], wargs, []⟩).memory :=
  laidMet_of_run' 8 (by kernel_rfl) (by kernel_rfl)
theorem reads (os : Os) {H : Type} (enc : TypeId × Value → H) : ∃ places, DataW.whole enc Try.prog ((laidWorld os).forCall (fun _ _ => 0) ⟨#[], wargs, []⟩).memory Try.f7.params.toList Rows.huffLengthsSpec.vars false wargs.toList 8 = some ([.nil, .lit (.int .i64 0)], [], places) :=
  ⟨[], by kernel_rfl⟩

set_option maxRecDepth 100000 in
theorem lifted (os : Os) (started : os.Started) (H : Type) (enc : TypeId × Value → H) (F : Stop.Interp) :
    ReturnsInHanded {} Try.checked os 7 .any ((OpenSpec.ofChange Rows.huffLengthsSpec).preRow enc Try.prog Try.f7 Rows.huffLengthsRow.domain false Rows.huffLengthsRow.laid) (((OpenSpec.ofChange Rows.huffLengthsSpec).at F).post enc Try.prog Try.f7 false true false false) := by
  obtain ⟨places, hx⟩ := reads os enc
  refine returnsInHanded_of_row (C := Try.checked) (s := OpenSpec.ofChange Rows.huffLengthsSpec) own started (by kernel_rfl) Try.func7
    (witness_row_at (enc := enc) (C := Try.checked) false (laidWorld os) wargs rfl (by kernel_rfl) (by kernel_rfl) (by kernel_rfl)
      (OpenSpec.preRow_of_cond 8 hx (by kernel_rfl) (fun k hk => by cases hk) (by kernel_rfl) (laid_met os))) ?_
  intro W base args ds gs before hval hW _ _ _ hlaid _ _
  exact contract H enc W base args ds gs before hval hW hlaid

theorem said : Rows.HuffLengthsSaid :=
  OpenClaim.holds_of_cond 7 Try.f7 rfl rfl rfl rfl rfl rfl rfl ⟨rfl, rfl, rfl, rfl, rfl⟩ rfl rfl rfl rfl rfl (by kernel_rfl) Try.func7 (by kernel_rfl)
    (of_decide_eq_true (by kernel_rfl)) (by unfold Func.isWrapper; first | (rw [if_pos (by decide +kernel)]; kernel_rfl) | (rw [if_neg (by decide +kernel)]; exact ⟨rfl, rfl⟩))
    (fun os started H enc _ F => by rw [OpenClaim.pre_eq_preRow]; exact lifted os started H enc F)

end Go.Proofs.Ytbmppmdklappiaa.lawHuffLengths
