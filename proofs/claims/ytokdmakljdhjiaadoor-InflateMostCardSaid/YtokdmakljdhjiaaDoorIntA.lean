/- Rows of numbers. -/
import Derived.Test.YtokdmakljdhjiaaDoorAwU
import Derived.Test.YtokdmakljdhjiaaDoorSlim
namespace Go.Proofs.YtokdmakljdhjiaaDoor.Aw
open Go
set_option linter.unusedSimpArgs false
set_option linter.unusedVariables false
set_option linter.defProp false

/-- A number that is no less than nought. -/
def nA (n : Nat) : AV := .sc (.int .i64 (n : Int))
theorem getD_nA {l : List Nat} {i : Nat} (h : i < l.length) : (l.map nA).getD i .junk = .sc (.int .i64 ((l.getD i 0 : Nat) : Int)) := by
  simp [List.getD, List.getElem?_eq_getElem h, nA]
theorem getD_zA {l : List Int} {i : Nat} (h : i < l.length) : (l.map int).getD i .junk = .sc (.int .i64 (l.getD i 0)) := by
  simp [List.getD, List.getElem?_eq_getElem h, int]
theorem free_nA {l : List Nat} : AV.free.freeL (l.map nA) = true := freeL_iff.2 fun x hx => by
  obtain ⟨n, _, rfl⟩ := List.mem_map.1 hx; rfl
theorem free_zA {l : List Int} : AV.free.freeL (l.map int) = true := freeL_iff.2 fun x hx => by
  obtain ⟨n, _, rfl⟩ := List.mem_map.1 hx; rfl
theorem renL_nA {ρ : Nat → Nat → Nat × Nat} {l : List Nat} : ren.renL ρ (l.map nA) = l.map nA := renL_free ρ _ free_nA
theorem renL_zA {ρ : Nat → Nat → Nat × Nat} {l : List Int} : ren.renL ρ (l.map int) = l.map int := renL_free ρ _ free_zA
theorem take_nA {l : List Nat} {n : Nat} : (l.map nA).take n = (l.take n).map nA := by simp
theorem drop_nA {l : List Nat} {n : Nat} : (l.map nA).drop n = (l.drop n).map nA := by simp
theorem take_zA {l : List Int} {n : Nat} : (l.map int).take n = (l.take n).map int := by simp
theorem drop_zA {l : List Int} {n : Nat} : (l.map int).drop n = (l.drop n).map int := by simp
theorem fzoL_nA {id g : Nat} {nl : Bool} {cells : List AV} {l : List Nat} : fzo.fzoL id g nl cells (l.map nA) = l.map nA := fzoL_free _ free_nA
theorem fzoL_zA {id g : Nat} {nl : Bool} {cells : List AV} {l : List Int} : fzo.fzoL id g nl cells (l.map int) = l.map int := fzoL_free _ free_zA
theorem frzL_nA {hp : Hp} : ∀ {l : List Nat}, frz.frzL hp (l.map nA) = l.map nA
  | [] => rfl
  | c :: l => by simp only [List.map_cons, frz.frzL, frzL_nA]; rfl
theorem foL_b8 : ∀ {l : List UInt8}, AV.fo.foL (l.map u8) = true
  | [] => rfl
  | _ :: l => by simp only [List.map_cons, AV.fo.foL, u8, AV.fo, Bool.true_and]; exact foL_b8
theorem foL_nA : ∀ {l : List Nat}, AV.fo.foL (l.map nA) = true
  | [] => rfl
  | _ :: l => by simp only [List.map_cons, AV.fo.foL, nA, AV.fo, Bool.true_and]; exact foL_nA
theorem splice_nA {l : List Nat} {k x : Nat} (h : k < l.length) : (l.take k).map nA ++ (.sc (.int .i64 (x : Int)) :: (l.drop (k + 1)).map nA) = (l.set k x).map nA := by
  rw [List.set_eq_take_append_cons_drop, if_pos h]
  simp [nA]
theorem splice_zA {l : List Int} {k : Nat} {x : Int} (h : k < l.length) : (l.take k).map int ++ (.sc (.int .i64 x) :: (l.drop (k + 1)).map int) = (l.set k x).map int := by
  rw [List.set_eq_take_append_cons_drop, if_pos h]
  simp [int]
theorem outOf_nil {st : ASt} : outOf st [] = .tup [] := rfl
def iR := And.intro @outOf_nil <| And.intro (And.intro (And.intro @getD_nA @getD_zA) (And.intro @free_nA @free_zA)) (And.intro (And.intro (And.intro @renL_nA @renL_zA) (And.intro (And.intro @take_nA @drop_nA) (And.intro @take_zA @drop_zA))) (And.intro (And.intro @fzoL_nA @fzoL_zA) @frzL_nA))
def fR := And.intro (And.intro (And.intro @fzo_sc @fzo_w32) (And.intro @fzo_junk @fzo_sl)) (And.intro (And.intro (And.intro @fzo_fp @fzo_agg) (And.intro @fzo_tup @fzo_own)) (And.intro (And.intro (And.intro @fzo_op @fzoL_nil) (And.intro @fzoL_cons @fzoL_u8)) (And.intro @fzoL_32 (And.intro @fzH_at @AO_fzo))))
theorem snocD {α : Type} {l : List α} {k : Nat} {d : α} (h : k < l.length) : l.take (k + 1) = l.take k ++ [l.getD k d] := by
  rw [List.take_succ_eq_append_getElem h]; simp [List.getD, List.getElem?_eq_getElem h]
theorem wrap_u64_id3 {x : Int} (h1 : 0 ≤ x) (h2 : x < 18446744073709551616) : IntKind.u64.wrap x = x := by
  simp only [IntKind.wrap, IntKind.bits, IntKind.signed]
  simp
  omega
theorem two_pow_le {n m : Nat} (h : n ≤ m) : 2 ^ n ≤ 2 ^ m := Nat.pow_le_pow_right (by omega) h
end Go.Proofs.YtokdmakljdhjiaaDoor.Aw
