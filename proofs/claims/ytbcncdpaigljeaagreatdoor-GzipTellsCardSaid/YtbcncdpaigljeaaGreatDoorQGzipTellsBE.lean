/- Parts of the proof of GzipTells. -/
import Derived.Test.YtbcncdpaigljeaaGreatDoorQGzipTellsBC
import Derived.Test.YtbcncdpaigljeaaGreatDoorQGzipTellsBB
import Derived.Shelf.Strings.Search1
import Derived.Shelf.Bytes.IndexByte
import Derived.Test.YtbcncdpaigljeaaGreatDoorProg
import Derived.Test.YtbcncdpaigljeaaGreatDoorQGzipTellsBD
namespace Go.Proofs.YtbcncdpaigljeaaGreatDoor.Aw
open Go
set_option linter.unusedSimpArgs false
set_option linter.unusedVariables false
set_option linter.defProp false
def nA (n : Nat) : AV := .sc (.int .i64 (n : Int))
theorem getD_nA {l : List Nat} {i : Nat} (h : i < l.length) : (l.map nA).getD i .junk = .sc (.int .i64 ((l.getD i 0 : Nat) : Int)) := by
  simp [List.getD, List.getElem?_eq_getElem h, nA]
theorem getD_zA {l : List Int} {i : Nat} (h : i < l.length) : (l.map int).getD i .junk = .sc (.int .i64 (l.getD i 0)) := by
  simp [List.getD, List.getElem?_eq_getElem h, int]
theorem free_nA {l : List Nat} : AV.free.freeL (l.map nA) = true := freeL_iff.2 fun x hx => by
  obtain ⟨n, _, rfl⟩ := List.mem_map.1 hx; rfl
theorem free_zA {l : List Int} : AV.free.freeL (l.map int) = true := freeL_iff.2 fun x hx => by
  obtain ⟨n, _, rfl⟩ := List.mem_map.1 hx; rfl
theorem renL_nA {ρ : Nat → Nat → Nat × Nat} {l : List Nat} : ren.renL ρ (l.map nA) = l.map nA := renL_free ρ _ free_nA
theorem renL_zA {ρ : Nat → Nat → Nat × Nat} {l : List Int} : ren.renL ρ (l.map int) = l.map int := renL_free ρ _ free_zA
theorem take_nA {l : List Nat} {n : Nat} : (l.map nA).take n = (l.take n).map nA := by simp
theorem drop_nA {l : List Nat} {n : Nat} : (l.map nA).drop n = (l.drop n).map nA := by simp
theorem take_zA {l : List Int} {n : Nat} : (l.map int).take n = (l.take n).map int := by simp
theorem drop_zA {l : List Int} {n : Nat} : (l.map int).drop n = (l.drop n).map int := by simp
theorem fzoL_nA {id g : Nat} {nl : Bool} {cells : List AV} {l : List Nat} : fzo.fzoL id g nl cells (l.map nA) = l.map nA := fzoL_free _ free_nA
theorem fzoL_zA {id g : Nat} {nl : Bool} {cells : List AV} {l : List Int} : fzo.fzoL id g nl cells (l.map int) = l.map int := fzoL_free _ free_zA
theorem frzL_nA {hp : Hp} : ∀ {l : List Nat}, frz.frzL hp (l.map nA) = l.map nA
  | [] => rfl
  | c :: l => by simp only [List.map_cons, frz.frzL, frzL_nA]; rfl
theorem foL_b8 : ∀ {l : List UInt8}, AV.fo.foL (l.map u8) = true
  | [] => rfl
  | _ :: l => by simp only [List.map_cons, AV.fo.foL, u8, AV.fo, Bool.true_and]; exact foL_b8
theorem splice_nA {l : List Nat} {k x : Nat} (h : k < l.length) : (l.take k).map nA ++ (.sc (.int .i64 (x : Int)) :: (l.drop (k + 1)).map nA) = (l.set k x).map nA := by
  rw [List.set_eq_take_append_cons_drop, if_pos h]
  simp [nA]
theorem outOf_nil {st : ASt} : outOf st [] = .tup [] := rfl
def iR := And.intro @outOf_nil <| And.intro (And.intro (And.intro @getD_nA @getD_zA) (And.intro @free_nA @free_zA)) (And.intro (And.intro (And.intro @renL_nA @renL_zA) (And.intro (And.intro @take_nA @drop_nA) (And.intro @take_zA @drop_zA))) (And.intro (And.intro @fzoL_nA @fzoL_zA) @frzL_nA))
def fR := And.intro (And.intro (And.intro @fzo_sc @fzo_w32) (And.intro @fzo_junk @fzo_sl)) (And.intro (And.intro (And.intro @fzo_fp @fzo_agg) (And.intro @fzo_tup @fzo_own)) (And.intro (And.intro (And.intro @fzo_op @fzoL_nil) (And.intro @fzoL_cons @fzoL_u8)) (And.intro @fzoL_32 (And.intro @fzH_at @AO_fzo))))
theorem snocD {α : Type} {l : List α} {k : Nat} {d : α} (h : k < l.length) : l.take (k + 1) = l.take k ++ [l.getD k d] := by
  rw [List.take_succ_eq_append_getElem h]; simp [List.getD, List.getElem?_eq_getElem h]
theorem wrap_u64_id3 {x : Int} (h1 : 0 ≤ x) (h2 : x < 18446744073709551616) : IntKind.u64.wrap x = x := by
  simp only [IntKind.wrap, IntKind.bits, IntKind.signed]
  simp
  omega
theorem two_pow_le {n m : Nat} (h : n ≤ m) : 2 ^ n ≤ 2 ^ m := Nat.pow_le_pow_right (by omega) h
end Go.Proofs.YtbcncdpaigljeaaGreatDoor.Aw
namespace Go.Proofs
open Go.Shelf
def Tryz.lays217_ren : Go.Shelf.Ren := ⟨fun | 217 => 67 | 266 => 112 | n => n, fun | 9 => 9 | 5 => 5 | 3 => 3 | n => n, fun | n => n⟩
theorem Tryz.lays217 : Go.Proofs.Lays.n217 Tryz.prog Tryz.lays217_ren := {
  mixed := by kernel_rfl
  f217 := Tryz.func67.trans (congrArg some (by kernel_rfl))
  f266 := Tryz.func112.trans (congrArg some (by kernel_rfl))
  t3 := Tryz.underlying3
  a3 := Tryz.isAgg3
  z3 := Tryz.sizeOf3
  v3 := Tryz.zeroValue3
  t5 := Tryz.underlying5
  a5 := Tryz.isAgg5
  z5 := Tryz.sizeOf5
  v5 := Tryz.zeroValue5
  t9 := Tryz.underlying9
  a9 := Tryz.isAgg9
  z9 := Tryz.sizeOf9
  v9 := Tryz.zeroValue9 }
open Go.RowKit Go.Lib in
theorem Tryz.stringslite_IndexByte (s : ByteArray) (c : Int) (w : World) :
    Calls Tryz.prog 67 #[.string s, .int .u8 c] w fun e w' => e = .returned (.int .i64 (Lib.indexByte s.data.toList c.toNat.toUInt8)) ∧ w' = w := Any.stringslite_IndexByte Tryz.lays217 s c w
def Tryz.lays187_ren : Go.Shelf.Ren := ⟨fun | 187 => 144 | 255 => 150 | n => n, fun | 37 => 22 | 5 => 5 | 3 => 3 | n => n, fun | n => n⟩
theorem Tryz.lays187 : Go.Proofs.Lays.n187 Tryz.prog Tryz.lays187_ren := {
  mixed := by kernel_rfl
  f187 := Tryz.func144.trans (congrArg some (by kernel_rfl))
  f255 := Tryz.func150.trans (congrArg some (by kernel_rfl))
  t3 := Tryz.underlying3
  a3 := Tryz.isAgg3
  z3 := Tryz.sizeOf3
  v3 := Tryz.zeroValue3
  t5 := Tryz.underlying5
  a5 := Tryz.isAgg5
  z5 := Tryz.sizeOf5
  v5 := Tryz.zeroValue5
  t37 := Tryz.underlying22
  a37 := Tryz.isAgg22
  z37 := Tryz.sizeOf22
  v37 := Tryz.zeroValue22 }
theorem Tryz.bytes_IndexByte (b o n c : Nat) (xs : List Int) (cv : Int) (w : World) (hx : xs.length = n) (hc : ∀ i, i < n → w.cell? ⟨b, o + i, none⟩ = some (.int .u8 (xs.getD i 0))) :
    Calls Tryz.prog 144 #[.slice (some ⟨b, o, none⟩) n c, .int .u8 cv] w fun e w' => e = .returned (.int .i64 (Lib.indexByte (Lib.bytesOf xs) cv.toNat.toUInt8)) ∧ w' = w := Any.bytes_IndexByte Tryz.lays187 b o n c xs cv w hx hc
end Go.Proofs
namespace Go.Proofs.YtbcncdpaigljeaaGreatDoor.Aw
open Go
set_option linter.unusedSimpArgs false
set_option linter.unusedVariables false
theorem slite_IndexByte_c [Tabs Tryz.prog] (s : ByteArray) (c : UInt8) : Con Tryz.prog n_stringslite_IndexByte [.sc (.string s), .sc (.int .u8 c.toNat)] (.sc (.int .i64 (Lib.indexByte s.data.toList c))) := by
  refine Con.same (xs := [.string s, .int .u8 c.toNat]) fun w => ?_
  have := Tryz.stringslite_IndexByte s c.toNat w
  rw [show ((c.toNat : Int).toNat.toUInt8) = c by simp] at this
  exact this
theorem strings_IndexByte_c [Tabs Tryz.prog] (s : ByteArray) (c : UInt8) : Con Tryz.prog n_strings_IndexByte [.sc (.string s), .sc (.int .u8 c.toNat)] (.sc (.int .i64 (Lib.indexByte s.data.toList c))) := by
  refine Con.of' mix Tryz.func36 rfl Tryz.ntmps36 e_strings_IndexByte r_strings_IndexByte (by simp) rfl rfl ?_
  unfold s_strings_IndexByte
  repeat (first | refine wA ?_ | refine wB ?_ | refine wC rfl ?_ | refine wD rfl ?_ | refine wE ?_ | refine wF (by omega) ?_ | ((first | refine wG ?_ | refine wH ?_ | refine wI ?_ | refine wJ ?_ | refine wK ?_ | refine wL ?_); simp (disch := omega) only [wP, wZ, undef, seval, if_pos, if_neg, aStore, frz, AV.flat, ↓reduceIte, ne_eq, reduceCtorEq, ByteArray.size]))
  refine goC_p _ (.inl ⟨rfl, slite_IndexByte_c s c⟩) ?_
  repeat (first | refine wA ?_ | refine wB ?_ | refine wC rfl ?_ | refine wD rfl ?_ | refine wE ?_ | refine wF (by omega) ?_ | ((first | refine wG ?_ | refine wH ?_ | refine wI ?_ | refine wJ ?_ | refine wK ?_ | refine wL ?_); simp (disch := omega) only [wP, wZ, undef, seval, if_pos, if_neg, aStore, frz, AV.flat, ↓reduceIte, ne_eq, reduceCtorEq, ByteArray.size]))
theorem rd_u8 {G : Gh} {w : World} : ∀ {b : List UInt8} {vs : List Value}, RdL G w (b.map u8) vs → vs = b.map fun c => Value.int .u8 (c.toNat : Int)
  | [], vs, h => by simpa [RdL] using h
  | c :: b, vs, h => by
    simp only [List.map_cons, RdL] at h
    obtain ⟨v, r, rfl, h1, h2⟩ := h
    rw [rd_u8 h2]
    simp only [u8, Rd] at h1
    rw [h1]; rfl
theorem bytesOf_u8 {b : List UInt8} : Lib.bytesOf (b.map fun c => (c.toNat : Int)) = b := by
  simp [Lib.bytesOf, Function.comp_def]
theorem bytes_IndexByte_c [Tabs Tryz.prog] (nl : Bool) (b : List UInt8) (hb : b ≠ []) (c : UInt8) : Con Tryz.prog n_bytes_IndexByte [.sl nl none (b.map u8), .sc (.int .u8 c.toNat)] (.sc (.int .i64 (Lib.indexByte b c))) := by
  intro w S vs _ hS hr
  simp only [RdL] at hr
  obtain ⟨v, r, rfl, h1, v2, r2, rfl, h2, rfl⟩ := hr
  simp only [Rd] at h1 h2
  subst h2
  obtain ⟨base, len, cap, us, rfl, rfl, hlc, hus, _, hbc, hcell⟩ := h1
  have hus := rd_u8 hus
  subst hus
  have hne : (b.map fun c => Value.int .u8 (c.toNat : Int)) ≠ [] := by simpa using hb
  cases base with
  | none =>
    have := hbc rfl
    rw [this, List.length_map] at hlc
    exact absurd (List.eq_nil_of_length_eq_zero (by omega)) hb
  | some a =>
    obtain ⟨hsp, _, hat⟩ := hcell a rfl hne
    obtain ⟨ab, ao, asp⟩ := a
    simp only at hsp hat
    subst hsp
    have hc := Tryz.bytes_IndexByte ab ao b.length cap (b.map fun c => (c.toNat : Int)) c.toNat w (by simp) (fun i hi => by
      have hx : (b.map fun c => Value.int .u8 (c.toNat : Int))[i]? = some (.int .u8 ((b[i]).toNat : Int)) := by simp [hi]
      have := (hat i _ hx).2 0 (.int .u8 ((b[i]).toNat : Int)) rfl
      simp only [esz, Nat.mul_one, Nat.add_zero] at this
      rw [this]
      simp [List.getD, hi])
    rw [bytesOf_u8, show ((c.toNat : Int).toNat.toUInt8) = c by simp] at hc
    rw [List.length_map]
    refine Calls.mono hc ?_
    rintro e w' ⟨rfl, rfl⟩
    exact ⟨_, S, rfl, Keep.refl _ _ _, fun _ h => h, fun _ h => .inl h, hS, rfl, by simp [Rd]⟩
set_option maxRecDepth 100000 in
theorem slices_GrowY [Tabs Tryz.prog] (n : Nat) (h0 : 0 < n) (hn : n ≤ 10000000) : HCon Tryz.prog n_slices_Growbytebyte [.sc (.slice none 0 0), int n] [] (.own 22 1 none 0 0) [(22, 1, .row false [])] 2 := by
  refine HCon.of' mix Tryz.func70 rfl Tryz.ntmps70 e_slices_Growbytebyte r_slices_Growbytebyte (by simp) (by simp [AV.gl, AV.gl.glL, int]) (by simp) ?_
  unfold s_slices_Growbytebyte
  have d1 : decide ((n : Int) < 0) = false := decide_eq_false (by omega)
  have d2 : decide ((n : Int) > 0) = true := decide_eq_true (by omega)
  have d3 : (n == 0) = false := by simp; omega
  iterate 16 (first | refine wA ?_ | refine wB ?_ | refine wC rfl ?_ | refine wD rfl ?_ | refine wE ?_ | refine wF (by omega) ?_ | ((first | refine wG ?_ | refine wH ?_ | refine wI ?_ | refine wJ ?_ | refine wK ?_ | refine wL ?_); simp (disch := omega) only [wP, wZ, undef, seval, if_pos, if_neg, aStore, frz, AV.flat, ↓reduceIte, ne_eq, reduceCtorEq, ByteArray.size, d1, d2, d3]))
  refine SWp.cut 22 0 (g := 1) (nl := false) (cells := (List.replicate n [AV.sc (.int .u8 0)]).flatten) (by simp (disch := omega) only [wP, wZ, undef, seval, if_pos, if_neg, aStore, frz, AV.flat, ↓reduceIte, ne_eq, reduceCtorEq, ByteArray.size]) ?_
  repeat (first | refine wA ?_ | refine wB ?_ | refine wC rfl ?_ | refine wD rfl ?_ | refine wE ?_ | refine wF (by omega) ?_ | ((first | refine wG ?_ | refine wH ?_ | refine wI ?_ | refine wJ ?_ | refine wK ?_ | refine wL ?_); simp (disch := omega) only [wP, wZ, undef, seval, if_pos, if_neg, aStore, frz, AV.flat, ↓reduceIte, ne_eq, reduceCtorEq, ByteArray.size]))
set_option maxRecDepth 100000 in
theorem slices_ConcatY_h [Tabs Tryz.prog] (n1 n2 n3 : Bool) (X Y Z : List UInt8) (n : Nat) (hn : n = X.length + Y.length + Z.length) (hl : n ≤ 10000000) (h0 : 0 < X.length) :
    HCon Tryz.prog n_slices_Concatbytebyte [.sl false none [.sl n1 none (X.map u8), .sl n2 none (Y.map u8), .sl n3 none (Z.map u8)]] [] (.own 1022 5 none 0 n) [(1022, 5, .row false ((X ++ (Y ++ Z)).map u8))] 10 := by
  refine HCon.of' mix Tryz.func38 rfl Tryz.ntmps38 e_slices_Concatbytebyte r_slices_Concatbytebyte (by simp) (by simp only [AV.gl, AV.gl.glL, and_true]; exact ⟨glL_of_free _ _ free_u8, glL_of_free _ _ free_u8, glL_of_free _ _ free_u8⟩) (by simp) ?_
  unfold s_slices_Concatbytebyte
  obtain ⟨m, hm⟩ : ∃ m, m = X.length + Y.length := ⟨_, rfl⟩
  have hc : (X.length : Int) + (Y.length : Int) = (m : Int) := by omega
  have hc2 : (m : Int) + (Z.length : Int) = (n : Int) := by omega
  have d1 : decide ((X.length : Int) < 0) = false := decide_eq_false (by omega)
  have d2 : decide ((m : Int) < 0) = false := decide_eq_false (by omega)
  have d3 : decide ((n : Int) < 0) = false := decide_eq_false (by omega)
  repeat (first | refine wA ?_ | refine wB ?_ | refine wC rfl ?_ | refine wD rfl ?_ | refine wE ?_ | refine wF (by omega) ?_ | ((first | refine wG ?_ | refine wH ?_ | refine wI ?_ | refine wJ ?_ | refine wK ?_ | refine wL ?_); simp (disch := omega) only [wP, wZ, undef, seval, if_pos, if_neg, aStore, frz, AV.flat, ↓reduceIte, ne_eq, reduceCtorEq, ByteArray.size]))
  refine SWp.unroll ?_
  repeat (first | refine wA ?_ | refine wB ?_ | refine wC rfl ?_ | refine wD rfl ?_ | refine wE ?_ | refine wF (by omega) ?_ | ((first | refine wG ?_ | refine wH ?_ | refine wI ?_ | refine wJ ?_ | refine wK ?_ | refine wL ?_); simp (disch := omega) only [wP, wZ, undef, seval, if_pos, if_neg, aStore, frz, AV.flat, ↓reduceIte, ne_eq, reduceCtorEq, ByteArray.size, d1, hc, d2, hc2, d3, List.length_map]))
  refine goC_h [] 1000 (slices_GrowY n (by omega) (by omega)) (by simp) (by simp) ?_ ?_ ?_
  iterate 2 (case _ => simp (disch := omega) only [wP, wZ, undef, seval, if_pos, if_neg, aStore, frz, AV.flat, ↓reduceIte, ne_eq, reduceCtorEq, ByteArray.size])
  repeat (first | refine wA ?_ | refine wB ?_ | refine wC rfl ?_ | refine wD rfl ?_ | refine wE ?_ | refine wF (by omega) ?_ | ((first | refine wG ?_ | refine wH ?_ | refine wI ?_ | refine wJ ?_ | refine wK ?_ | refine wL ?_); simp (disch := omega) only [wP, wZ, undef, seval, if_pos, if_neg, aStore, frz, AV.flat, ↓reduceIte, ne_eq, reduceCtorEq, ByteArray.size]))
  have e1 : X.length ≤ 70368744177664 := by omega
  have e2 : X.length + Y.length ≤ 70368744177664 := by omega
  have hn2 : X.length + Y.length + Z.length = n := hn.symm
  refine SWp.unroll ?_
  repeat (first | refine wA ?_ | refine wB ?_ | refine wC rfl ?_ | refine wD rfl ?_ | refine wE ?_ | refine wF (by omega) ?_ | ((first | refine wG ?_ | refine wH ?_ | refine wI ?_ | refine wJ ?_ | refine wK ?_ | refine wL ?_); simp (disch := omega) only [wP, wZ, undef, seval, if_pos, if_neg, aStore, frz, AV.flat, ↓reduceIte, ne_eq, reduceCtorEq, ByteArray.size, List.length_append, List.length_map, hn2]))
theorem frzL_u8 {hp : Hp} : ∀ {l : List UInt8}, frz.frzL hp (l.map u8) = l.map u8
  | [] => rfl
  | c :: l => by simp only [List.map_cons, frz.frzL]; rw [frzL_u8]; rfl
def tlB (b : List UInt8) : List UInt8 := leB (crcMore 0 b).toNat 4 ++ leB b.length 4
theorem leB4 {n : Nat} : leB n 4 = [UInt8.ofNat n, UInt8.ofNat (n / 256), UInt8.ofNat (n / 65536), UInt8.ofNat (n / 16777216)] := by
  simp [leB, List.range_succ]
theorem length_leB4 {n : Nat} : (leB n 4).length = 4 := by simp [leB]
theorem leR4 {n : Nat} : leR n 4 = .sl false none ((leB n 4).map u8) := rfl
set_option maxRecDepth 100000 in
theorem gz_tail_c [Tabs Tryz.prog] (nl : Bool) (b : List UInt8) (hb : b.length ≤ 1000000) : Con Tryz.prog n_gzip_tail [.sl nl none (b.map u8)] (.agg ((tlB b).map u8)) := by
  refine Con.of' mix Tryz.func37 rfl Tryz.ntmps37 e_gzip_tail r_gzip_tail (by simp) (by simp only [AV.free, AV.free.freeL, free_u8, Bool.and_self]) (by simp only [AV.free, free_u8]) ?_
  unfold s_gzip_tail
  have hc := digest_Crc_c nl b hb
  have hlt := (crcMore 0 b).toNat_lt
  obtain ⟨c, hcc⟩ : ∃ c, c = crcMore 0 b := ⟨_, rfl⟩
  have ht : tlB b = leB c.toNat 4 ++ leB b.length 4 := by rw [hcc]; rfl
  rw [← hcc] at hc hlt
  have l1 := codec_Le_c c.toNat (by omega) 4 (by omega) (by omega)
  have l2 := codec_Le_c b.length (by omega) 4 (by omega) (by omega)
  rw [leR4] at l1 l2
  rw [ht]
  have hL1 : (leB c.toNat 4).length = 4 := length_leB4
  have hL2 : (leB b.length 4).length = 4 := length_leB4
  obtain ⟨X, hX⟩ : ∃ X, X = leB c.toNat 4 := ⟨_, rfl⟩
  obtain ⟨Y, hY⟩ : ∃ Y, Y = leB b.length 4 := ⟨_, rfl⟩
  rw [← hX] at l1 hL1 ⊢
  rw [← hY] at l2 hL2 ⊢
  obtain ⟨Z, hZ⟩ : ∃ Z, Z = X ++ Y := ⟨_, rfl⟩
  have hZl : Z.length = 8 := by rw [hZ, List.length_append]; omega
  have hZm : X.map u8 ++ Y.map u8 = Z.map u8 := by rw [hZ, List.map_append]
  rw [← hZ]
  have hwr : IntKind.u64.wrap (b.length : Int) = (b.length : Int) := wrap_u64_id (by omega) (by omega)
  have hwc : IntKind.u64.wrap (c.toNat : Int) = (c.toNat : Int) := wrap_u64_id (by omega) (by omega)
  have t1 : (X.map u8).take 8 = X.map u8 := List.take_of_length_le (by simp; omega)
  have t2 : (Y.map u8).take 4 = Y.map u8 := List.take_of_length_le (by simp; omega)
  repeat (first | refine wA ?_ | refine wB ?_ | refine wC rfl ?_ | refine wD rfl ?_ | refine wE ?_ | refine wF (by omega) ?_ | ((first | refine wG ?_ | refine wH ?_ | refine wI ?_ | refine wJ ?_ | refine wK ?_ | refine wL ?_); simp (disch := omega) only [wP, wZ, undef, seval, if_pos, if_neg, aStore, frz, AV.flat, ↓reduceIte, ne_eq, reduceCtorEq, ByteArray.size]))
  refine goC_p _ (.inl ⟨by simp only [AV.free, AV.free.freeL, free_u8, Bool.and_self], hc⟩) ?_
  repeat (first | refine wA ?_ | refine wB ?_ | refine wC rfl ?_ | refine wD rfl ?_ | refine wE ?_ | refine wF (by omega) ?_ | ((first | refine wG ?_ | refine wH ?_ | refine wI ?_ | refine wJ ?_ | refine wK ?_ | refine wL ?_); simp (disch := omega) only [wP, wZ, undef, seval, if_pos, if_neg, aStore, frz, AV.flat, ↓reduceIte, ne_eq, reduceCtorEq, ByteArray.size, hwc]))
  refine goC_p _ (.inl ⟨rfl, l1⟩) ?_
  repeat (first | refine wA ?_ | refine wB ?_ | refine wC rfl ?_ | refine wD rfl ?_ | refine wE ?_ | refine wF (by omega) ?_ | ((first | refine wG ?_ | refine wH ?_ | refine wI ?_ | refine wJ ?_ | refine wK ?_ | refine wL ?_); simp (disch := omega) only [wP, wZ, undef, seval, if_pos, if_neg, aStore, frz, AV.flat, ↓reduceIte, ne_eq, reduceCtorEq, ByteArray.size, hL1, List.length_map, t1, hwr]))
  refine goC_p _ (.inl ⟨rfl, l2⟩) ?_
  have t3 : (X.map u8).take 4 = X.map u8 := List.take_of_length_le (by simp; omega)
  have t5 : ∀ R, (X.map u8 ++ R).take 4 = X.map u8 := fun R => by rw [List.take_append_of_le_length (by simp; omega)]; exact t3
  have t6 : ∀ a b c d, (X.map u8 ++ [a, b, c, d]).drop 8 = ([] : List AV) := fun a b c d => List.drop_of_length_le (by simp; omega)
  have t4 : (Z.map u8).take 8 = Z.map u8 := List.take_of_length_le (by simp; omega)
  repeat (first | refine wA ?_ | refine wB ?_ | refine wC rfl ?_ | refine wD rfl ?_ | refine wE ?_ | refine wF (by omega) ?_ | ((first | refine wG ?_ | refine wH ?_ | refine wI ?_ | refine wJ ?_ | refine wK ?_ | refine wL ?_); simp (disch := omega) only [wP, wZ, undef, seval, if_pos, if_neg, aStore, frz, AV.flat, ↓reduceIte, ne_eq, reduceCtorEq, ByteArray.size, hL1, hL2, List.length_map, t2, t3, t4, t5, t6, List.length_append, hZm, hZl, frzL_u8]))
end Go.Proofs.YtbcncdpaigljeaaGreatDoor.Aw
namespace Go.Proofs.YtbcncdpaigljeaaGreatDoor.Aw
open Go
set_option linter.unusedSimpArgs false
set_option linter.unusedVariables false
def hdB (nm : List UInt8) (mt : Nat) : List UInt8 := 31 :: 139 :: 8 :: (if nm = [] then 0 else 8) :: (leB mt 4 ++ (0 :: 3 :: (if nm = [] then [] else nm ++ [0])))
set_option maxRecDepth 100000 in
theorem gz_head_c [Tabs Tryz.prog] (nm : ByteArray) (hn : nm.data.toList.length ≤ 200) (mt : Nat) (hm : mt < 4294967296) (nl : Bool) (b : List UInt8) : Con Tryz.prog n_gzip_head [.agg [.sc (.string nm), int mt, .sl nl none (b.map u8)]] (.sl false none ((hdB nm.data.toList mt).map u8)) := by
  refine Con.of' mix Tryz.func39 rfl Tryz.ntmps39 e_gzip_head r_gzip_head (by simp) (by simp only [AV.free, AV.free.freeL, free_u8, int, Bool.and_self]) (by simp only [AV.free, free_u8]) ?_
  unfold s_gzip_head
  have l1 := codec_Le_c mt (by omega) 4 (by omega) (by omega)
  rw [leR4] at l1
  have hL1 : (leB mt 4).length = 4 := length_leB4
  obtain ⟨X, hX⟩ : ∃ X, X = leB mt 4 := ⟨_, rfl⟩
  rw [hdB, ← hX]
  rw [← hX] at l1 hL1
  have hwc : IntKind.u64.wrap (mt : Int) = (mt : Int) := wrap_u64_id (by omega) (by omega)
  by_cases c : nm.data.toList = []
  · have d : decide (nm.data.toList = (⟨#[]⟩ : ByteArray).data.toList) = true := decide_eq_true c
    rw [if_pos c, if_pos c]
    repeat (first | refine wA ?_ | refine wB ?_ | refine wC rfl ?_ | refine wD rfl ?_ | refine wE ?_ | refine wF (by omega) ?_ | ((first | refine wG ?_ | refine wH ?_ | refine wI ?_ | refine wJ ?_ | refine wK ?_ | refine wL ?_); simp (disch := omega) only [wP, wZ, undef, seval, if_pos, if_neg, aStore, frz, AV.flat, ↓reduceIte, ne_eq, reduceCtorEq, ByteArray.size, d, hwc]))
    refine goC_p _ (.inl ⟨rfl, l1⟩) ?_
    repeat (first | refine wA ?_ | refine wB ?_ | refine wC rfl ?_ | refine wD rfl ?_ | refine wE ?_ | refine wF (by omega) ?_ | ((first | refine wG ?_ | refine wH ?_ | refine wI ?_ | refine wJ ?_ | refine wK ?_ | refine wL ?_); simp (disch := omega) only [wP, wZ, undef, seval, if_pos, if_neg, aStore, frz, AV.flat, ↓reduceIte, ne_eq, reduceCtorEq, ByteArray.size, d, hL1, List.length_map]))
    rw [List.take_of_length_le (by simp; omega)]
  · have d : decide (nm.data.toList = (⟨#[]⟩ : ByteArray).data.toList) = false := decide_eq_false c
    rw [if_neg c, if_neg c]
    repeat (first | refine wA ?_ | refine wB ?_ | refine wC rfl ?_ | refine wD rfl ?_ | refine wE ?_ | refine wF (by omega) ?_ | ((first | refine wG ?_ | refine wH ?_ | refine wI ?_ | refine wJ ?_ | refine wK ?_ | refine wL ?_); simp (disch := omega) only [wP, wZ, undef, seval, if_pos, if_neg, aStore, frz, AV.flat, ↓reduceIte, ne_eq, reduceCtorEq, ByteArray.size, d, hwc]))
    refine goC_p _ (.inl ⟨rfl, l1⟩) ?_
    repeat (first | refine wA ?_ | refine wB ?_ | refine wC rfl ?_ | refine wD rfl ?_ | refine wE ?_ | refine wF (by omega) ?_ | ((first | refine wG ?_ | refine wH ?_ | refine wI ?_ | refine wJ ?_ | refine wK ?_ | refine wL ?_); simp (disch := omega) only [wP, wZ, undef, seval, if_pos, if_neg, aStore, frz, AV.flat, ↓reduceIte, ne_eq, reduceCtorEq, ByteArray.size, d, hL1, List.length_map]))
    rw [List.take_of_length_le (by simp; omega)]
theorem hdB_len {nm : List UInt8} {mt : Nat} : 10 ≤ (hdB nm mt).length ∧ (hdB nm mt).length ≤ 11 + nm.length := by
  rw [hdB]
  simp only [List.length_cons, List.length_append, length_leB4]
  by_cases c : nm = []
  · simp only [if_pos c, List.length_nil]; omega
  · simp only [if_neg c, List.length_append, List.length_cons, List.length_nil]; omega
end Go.Proofs.YtbcncdpaigljeaaGreatDoor.Aw
namespace Go.Proofs.YtbcncdpaigljeaaGreatDoor.Aw
open Go
set_option linter.unusedSimpArgs false
set_option linter.unusedVariables false
theorem bytes_Clone_c [Tabs Tryz.prog] (nl : Bool) (l : List UInt8) (hl : l.length ≤ 1000000) (hn : nl = true → l = []) : Con Tryz.prog n_bytes_Clone [.sl nl none (l.map u8)] (.sl nl none (l.map u8)) := by
  refine Con.of' mix Tryz.func54 rfl Tryz.ntmps54 e_bytes_Clone r_bytes_Clone (by simp) (by simp only [AV.free, AV.free.freeL, free_u8, Bool.and_self]) (by simp only [AV.free, free_u8]) ?_
  unfold s_bytes_Clone
  cases nl with
  | true =>
    obtain rfl := hn rfl
    iterate 8 (first | refine wA ?_ | refine wB ?_ | refine wC rfl ?_ | refine wD rfl ?_ | refine wE ?_ | refine wF (by omega) ?_ | ((first | refine wG ?_ | refine wH ?_ | refine wI ?_ | refine wJ ?_ | refine wK ?_ | refine wL ?_); simp (disch := omega) only [wP, wZ, undef, seval, if_pos, if_neg, aStore, frz, AV.flat, ↓reduceIte, ne_eq, reduceCtorEq, ByteArray.size]))
    refine SWp.adopt 2 none (by simp (disch := omega) only [wP, wZ, undef, seval, if_pos, if_neg, aStore, frz, AV.flat, ↓reduceIte, ne_eq, reduceCtorEq, ByteArray.size]) ?_
    repeat (first | refine wA ?_ | refine wB ?_ | refine wC rfl ?_ | refine wD rfl ?_ | refine wE ?_ | refine wF (by omega) ?_ | ((first | refine wG ?_ | refine wH ?_ | refine wI ?_ | refine wJ ?_ | refine wK ?_ | refine wL ?_); simp (disch := omega) only [wP, wZ, undef, seval, if_pos, if_neg, aStore, frz, AV.flat, ↓reduceIte, ne_eq, reduceCtorEq, ByteArray.size]))
  | false =>
    repeat (first | refine wA ?_ | refine wB ?_ | refine wC rfl ?_ | refine wD rfl ?_ | refine wE ?_ | refine wF (by omega) ?_ | ((first | refine wG ?_ | refine wH ?_ | refine wI ?_ | refine wJ ?_ | refine wK ?_ | refine wL ?_); simp (disch := omega) only [wP, wZ, undef, seval, if_pos, if_neg, aStore, frz, AV.flat, ↓reduceIte, ne_eq, reduceCtorEq, ByteArray.size]))
theorem bytes_Clone_h [Tabs Tryz.prog] (nl : Bool) (l : List UInt8) (hl : l.length ≤ 1000000) (hn : nl = true → l = []) : HCon Tryz.prog n_bytes_Clone [.sl nl none (l.map u8)] [] (.own 5 2 none 0 l.length) [(5, 2, .row nl (l.map u8))] 3 := by
  refine HCon.of' mix Tryz.func54 rfl Tryz.ntmps54 e_bytes_Clone r_bytes_Clone (by simp) (by simp only [AV.gl.glL, AV.gl, and_true]; exact glL_of_free _ _ free_u8) (by simp) ?_
  unfold s_bytes_Clone
  cases nl with
  | true =>
    obtain rfl := hn rfl
    iterate 8 (first | refine wA ?_ | refine wB ?_ | refine wC rfl ?_ | refine wD rfl ?_ | refine wE ?_ | refine wF (by omega) ?_ | ((first | refine wG ?_ | refine wH ?_ | refine wI ?_ | refine wJ ?_ | refine wK ?_ | refine wL ?_); simp (disch := omega) only [wP, wZ, undef, seval, if_pos, if_neg, aStore, frz, AV.flat, ↓reduceIte, ne_eq, reduceCtorEq, ByteArray.size]))
    refine SWp.adopt 2 none (by simp (disch := omega) only [wP, wZ, undef, seval, if_pos, if_neg, aStore, frz, AV.flat, ↓reduceIte, ne_eq, reduceCtorEq, ByteArray.size]) ?_
    refine SWp.le (le_mk (N := 8) (gc := 2) (l := [(2, .own 2 1 none 0 0)]) (h := [(2, 1, .row true [])]) rfl ?_ ?_ ?_) ?_
    iterate 3 (case _ => simp (disch := omega) only [wP, wZ, undef, seval, if_pos, if_neg, aStore, frz, AV.flat, ↓reduceIte, ne_eq, reduceCtorEq, ByteArray.size])
    refine SWp.swap 2 5 (by simp (disch := omega) only [wP, wZ, undef, seval, if_pos, if_neg, aStore, frz, AV.flat, ↓reduceIte, ne_eq, reduceCtorEq, ByteArray.size, genOk]) (by simp (disch := omega) only [wP, wZ, undef, seval, if_pos, if_neg, aStore, frz, AV.flat, ↓reduceIte, ne_eq, reduceCtorEq, ByteArray.size, genOk]) ?_
    refine SWp.le (le_mk (N := 8) (gc := 2) (l := [(2, .own 5 1 none 0 0)]) (h := [(5, 1, .row true [])]) rfl ?_ ?_ ?_) ?_
    iterate 3 (case _ => simp (disch := omega) only [wP, wZ, undef, seval, if_pos, if_neg, aStore, frz, AV.flat, ↓reduceIte, ne_eq, reduceCtorEq, ByteArray.size, swr_eq, sw, swH])
    refine SWp.renew 5 1 (o := .row true []) (by simp (disch := omega) only [wP, wZ, undef, seval, if_pos, if_neg, aStore, frz, AV.flat, ↓reduceIte, ne_eq, reduceCtorEq, ByteArray.size]) ?_
    refine SWp.le (le_mk (N := 8) (gc := 3) (l := [(2, .own 5 2 none 0 0)]) (h := [(5, 2, .row true [])]) rfl ?_ ?_ ?_) ?_
    iterate 3 (case _ => simp (disch := omega) only [wP, wZ, undef, seval, if_pos, if_neg, aStore, frz, AV.flat, ↓reduceIte, ne_eq, reduceCtorEq, ByteArray.size, rgn_eq, rgH_at])
    repeat (first | refine wA ?_ | refine wB ?_ | refine wC rfl ?_ | refine wD rfl ?_ | refine wE ?_ | refine wF (by omega) ?_ | ((first | refine wG ?_ | refine wH ?_ | refine wI ?_ | refine wJ ?_ | refine wK ?_ | refine wL ?_); simp (disch := omega) only [wP, wZ, undef, seval, if_pos, if_neg, aStore, frz, AV.flat, ↓reduceIte, ne_eq, reduceCtorEq, ByteArray.size]))
  | false =>
    repeat (first | refine wA ?_ | refine wB ?_ | refine wC rfl ?_ | refine wD rfl ?_ | refine wE ?_ | refine wF (by omega) ?_ | ((first | refine wG ?_ | refine wH ?_ | refine wI ?_ | refine wJ ?_ | refine wK ?_ | refine wL ?_); simp (disch := omega) only [wP, wZ, undef, seval, if_pos, if_neg, aStore, frz, AV.flat, ↓reduceIte, ne_eq, reduceCtorEq, ByteArray.size]))
def bitsB (c : UInt8) : List Nat := (List.range 8).map fun k => c.toNat / 2 ^ k % 2
def bitsL (l : List UInt8) : List Nat := l.flatMap bitsB
def bitAt (l : List UInt8) (i : Nat) : Nat := (l.getD (i / 8) 0).toNat / 2 ^ (i % 8) % 2
theorem length_bitsB {c : UInt8} : (bitsB c).length = 8 := by simp [bitsB]
theorem length_bitsL : ∀ {l : List UInt8}, (bitsL l).length = 8 * l.length
  | [] => rfl
  | c :: l => by show (bitsB c ++ bitsL l).length = _; rw [List.length_append, length_bitsB, length_bitsL, List.length_cons]; omega
theorem bitsL_append {l m : List UInt8} : bitsL (l ++ m) = bitsL l ++ bitsL m := by simp [bitsL]
theorem bitsB_get {c : UInt8} {k : Nat} (h : k < 8) : (bitsB c).getD k 0 = c.toNat / 2 ^ k % 2 := by
  simp [bitsB, List.getD, h]
theorem bitsL_get : ∀ {l : List UInt8} {i : Nat}, i < 8 * l.length → (bitsL l).getD i 0 = bitAt l i
  | [], i, h => by simp at h
  | c :: l, i, h => by
    show (bitsB c ++ bitsL l).getD i 0 = _
    by_cases hi : i < 8
    · have e1 : i / 8 = 0 := by omega
      have e2 : i % 8 = i := by omega
      have : (bitsB c ++ bitsL l).getD i 0 = (bitsB c).getD i 0 := by
        simp only [List.getD]; rw [List.getElem?_append_left (by rw [length_bitsB]; exact hi)]
      rw [this, bitsB_get hi, bitAt, e1, e2]; rfl
    · have e1 : i / 8 = (i - 8) / 8 + 1 := by omega
      have e2 : i % 8 = (i - 8) % 8 := by omega
      have : (bitsB c ++ bitsL l).getD i 0 = (bitsL l).getD (i - 8) 0 := by
        simp only [List.getD]; rw [List.getElem?_append_right (by rw [length_bitsB]; omega), length_bitsB]
      rw [this, bitsL_get (by simp only [List.length_cons] at h; omega), bitAt, bitAt, e1, e2]; rfl
theorem bitAt_lt {l : List UInt8} {i : Nat} : bitAt l i < 2 := Nat.mod_lt _ (by omega)
def numB : List Nat → Nat
  | [] => 0
  | x :: r => x + 2 * numB r
theorem numB_append {a b : List Nat} : numB (a ++ b) = numB a + 2 ^ a.length * numB b := by
  induction a with
  | nil => simp [numB]
  | cons x a ih => simp only [List.cons_append, numB, ih, List.length_cons, Nat.pow_succ, Nat.mul_add]; rw [Nat.mul_comm (2 ^ a.length) 2, Nat.mul_assoc]; omega
theorem numB_lt {l : List Nat} (h : ∀ x ∈ l, x < 2) : numB l < 2 ^ l.length := by
  induction l with
  | nil => simp [numB]
  | cons x l ih =>
    have h1 := h x (by simp)
    have h2 := ih fun y hy => h y (by simp [hy])
    simp only [numB, List.length_cons, Nat.pow_succ]; omega
theorem bitsL_lt {l : List UInt8} : ∀ x ∈ bitsL l, x < 2 := by
  intro x hx
  simp only [bitsL, bitsB, List.mem_flatMap, List.mem_map] at hx
  obtain ⟨_, _, _, _, rfl⟩ := hx
  exact Nat.mod_lt _ (by omega)
def rdR (nl : Bool) (b : List UInt8) (i : Nat) : List AV := [.sl nl none (b.map u8), .sc (.int .i64 (i : Int))]
theorem rd_gl {nl : Bool} {b : List UInt8} {i : Nat} : ∀ n cells, AO.row n cells ∈ [AO.row false (rdR nl b i)] → AV.gl.glL 1 cells := by
  intro n cells h
  simp only [List.mem_singleton, AO.row.injEq] at h
  obtain ⟨-, rfl⟩ := h
  simp only [rdR, AV.gl.glL, AV.gl, and_true]
  exact glL_of_free _ _ free_u8
theorem huff_NewReader_h [Tabs Tryz.prog] (nl : Bool) (b : List UInt8) (hl : b.length ≤ 1000000) (hn : nl = true → b = []) :
    HCon Tryz.prog n_huff_NewReader [.sl nl none (b.map u8)] [] (.op 6 1 0) [(6, 1, .row false (rdR nl b 0))] 2 := by
  refine HCon.of' mix Tryz.func25 rfl Tryz.ntmps25 e_huff_NewReader r_huff_NewReader (by simp) (by simp only [AV.gl.glL, AV.gl, and_true]; exact glL_of_free _ _ free_u8) (by simp) ?_
  unfold s_huff_NewReader
  repeat (first | refine wA ?_ | refine wB ?_ | refine wC rfl ?_ | refine wD rfl ?_ | refine wE ?_ | refine wF (by omega) ?_ | ((first | refine wG ?_ | refine wH ?_ | refine wI ?_ | refine wJ ?_ | refine wK ?_ | refine wL ?_); simp (disch := omega) only [wP, wZ, undef, seval, if_pos, if_neg, aStore, frz, AV.flat, ↓reduceIte, ne_eq, reduceCtorEq, ByteArray.size]))
  refine goC_p _ (.inl ⟨by simp only [AV.free, AV.free.freeL, free_u8, Bool.and_self], bytes_Clone_c nl b hl hn⟩) ?_
  repeat (first | refine wA ?_ | refine wB ?_ | refine wC rfl ?_ | refine wD rfl ?_ | refine wE ?_ | refine wF (by omega) ?_ | ((first | refine wG ?_ | refine wH ?_ | refine wI ?_ | refine wJ ?_ | refine wK ?_ | refine wL ?_); simp (disch := omega) only [wP, wZ, undef, seval, if_pos, if_neg, aStore, frz, AV.flat, ↓reduceIte, ne_eq, reduceCtorEq, ByteArray.size, rdR]))
theorem huff_At_h [Tabs Tryz.prog] (nl : Bool) (b : List UInt8) (i : Nat) :
    HCon Tryz.prog n_huff_Reader_At [.op 1000 0 0] [.row false (rdR nl b i)] (int (i : Int)) [(1000, 0, .row false (rdR nl b i))] 1 := by
  refine HCon.of' mix Tryz.func27 rfl Tryz.ntmps27 e_huff_Reader_At r_huff_Reader_At (by simp) (by simp [AV.gl, AV.gl.glL]) rd_gl ?_
  unfold s_huff_Reader_At
  repeat (first | refine wA ?_ | refine wB ?_ | refine wC rfl ?_ | refine wD rfl ?_ | refine wE ?_ | refine wF (by omega) ?_ | ((first | refine wG ?_ | refine wH ?_ | refine wI ?_ | refine wJ ?_ | refine wK ?_ | refine wL ?_); simp (disch := omega) only [wP, wZ, undef, seval, if_pos, if_neg, aStore, frz, AV.flat, ↓reduceIte, ne_eq, reduceCtorEq, ByteArray.size, rdR]))
theorem huff_left_h [Tabs Tryz.prog] (nl : Bool) (b : List UInt8) (hl : b.length ≤ 1000000) (i : Nat) (hi : i ≤ 8 * b.length) :
    HCon Tryz.prog n_huff_Reader_left [.op 1000 0 0] [.row false (rdR nl b i)] (int ((8 * b.length - i : Nat) : Int)) [(1000, 0, .row false (rdR nl b i))] 1 := by
  refine HCon.of' mix Tryz.func96 rfl Tryz.ntmps96 e_huff_Reader_left r_huff_Reader_left (by simp) (by simp [AV.gl, AV.gl.glL]) rd_gl ?_
  unfold s_huff_Reader_left
  have e : (b.length : Int) * 8 - (i : Int) = ((8 * b.length - i : Nat) : Int) := by omega
  repeat (first | refine wA ?_ | refine wB ?_ | refine wC rfl ?_ | refine wD rfl ?_ | refine wE ?_ | refine wF (by omega) ?_ | ((first | refine wG ?_ | refine wH ?_ | refine wI ?_ | refine wJ ?_ | refine wK ?_ | refine wL ?_); simp (disch := omega) only [wP, wZ, undef, seval, if_pos, if_neg, aStore, frz, AV.flat, ↓reduceIte, ne_eq, reduceCtorEq, ByteArray.size, rdR, e]))
set_option maxRecDepth 100000 in
theorem huff_bit_h [Tabs Tryz.prog] (nl : Bool) (b : List UInt8) (hl : b.length ≤ 1000000) (i : Nat) (hi : i < 8 * b.length) :
    HCon Tryz.prog n_huff_Reader_bit [.op 1000 0 0] [.row false (rdR nl b i)] (.sc (.int .i64 ((bitAt b i : Nat) : Int))) [(1000, 0, .row false (rdR nl b (i + 1)))] 1 := by
  refine HCon.of' mix Tryz.func97 rfl Tryz.ntmps97 e_huff_Reader_bit r_huff_Reader_bit (by simp) (by simp [AV.gl, AV.gl.glL]) rd_gl ?_
  unfold s_huff_Reader_bit
  have h8 : i / 8 < b.length := by omega
  have hm : i % 8 < 64 := by omega
  obtain ⟨c, hc⟩ : ∃ c, c = b.getD (i / 8) 0 := ⟨_, rfl⟩
  obtain ⟨x, hx⟩ : ∃ x, x = c.toNat / 2 ^ (i % 8) := ⟨_, rfl⟩
  have hb : bitAt b i = x % 2 := by rw [bitAt, ← hc, ← hx]
  have hcl := c.toNat_lt
  have hxl : x < 256 := by rw [hx]; exact Nat.lt_of_le_of_lt (Nat.div_le_self _ _) hcl
  repeat (first | refine wA ?_ | refine wB ?_ | refine wC rfl ?_ | refine wD rfl ?_ | refine wE ?_ | refine wF (by omega) ?_ | ((first | refine wG ?_ | refine wH ?_ | refine wI ?_ | refine wJ ?_ | refine wK ?_ | refine wL ?_); simp (disch := omega) only [wP, wZ, undef, seval, if_pos, if_neg, aStore, frz, AV.flat, ↓reduceIte, ne_eq, reduceCtorEq, ByteArray.size, rdR, ← hc, ← hx, hb]))
def okTake (len i : Nat) (n : Int) : Bool := decide (0 ≤ n ∧ n ≤ 24 ∧ n ≤ ((8 * len - i : Nat) : Int))
def numAt (b : List UInt8) (i n : Nat) : Nat := numB ((List.range n).map fun k => bitAt b (i + k))
theorem numAt_succ {b : List UInt8} {i n : Nat} : numAt b i (n + 1) = numAt b i n + 2 ^ n * bitAt b (i + n) := by
  unfold numAt; rw [List.range_succ, List.map_append, numB_append]; simp [numB]
theorem numAt_lt {b : List UInt8} {i n : Nat} : numAt b i n < 2 ^ n := by
  have := numB_lt (l := (List.range n).map fun k => bitAt b (i + k)) (by intro x hx; obtain ⟨k, _, rfl⟩ := List.mem_map.1 hx; exact bitAt_lt)
  simpa [numAt] using this
set_option maxRecDepth 100000 in
theorem huff_Take_no [Tabs Tryz.prog] (nl : Bool) (b : List UInt8) (hl : b.length ≤ 1000000) (i : Nat) (hi : i ≤ 8 * b.length) (n : Int) (hn : okTake b.length i n = false) :
    HCon Tryz.prog n_huff_Reader_Take [.op 1000 0 0, int n] [.row false (rdR nl b i)] (.tup [int 0, boo false]) [(1000, 0, .row false (rdR nl b i))] 30 := by
  refine HCon.of' mix Tryz.func55 rfl Tryz.ntmps55 e_huff_Reader_Take r_huff_Reader_Take (by simp) (by simp [AV.gl, AV.gl.glL, int]) rd_gl ?_
  unfold s_huff_Reader_Take
  have hn' := of_decide_eq_false hn
  by_cases c1 : n < 0
  · have d1 := decide_eq_true c1
    repeat (first | refine wA ?_ | refine wB ?_ | refine wC rfl ?_ | refine wD rfl ?_ | refine wE ?_ | refine wF (by omega) ?_ | ((first | refine wG ?_ | refine wH ?_ | refine wI ?_ | refine wJ ?_ | refine wK ?_ | refine wL ?_); simp (disch := omega) only [wP, wZ, undef, seval, if_pos, if_neg, aStore, frz, AV.flat, ↓reduceIte, ne_eq, reduceCtorEq, ByteArray.size, d1]))
  have d1 := decide_eq_false c1
  by_cases c2 : 24 < n
  · have d2 := decide_eq_true c2
    repeat (first | refine wA ?_ | refine wB ?_ | refine wC rfl ?_ | refine wD rfl ?_ | refine wE ?_ | refine wF (by omega) ?_ | ((first | refine wG ?_ | refine wH ?_ | refine wI ?_ | refine wJ ?_ | refine wK ?_ | refine wL ?_); simp (disch := omega) only [wP, wZ, undef, seval, if_pos, if_neg, aStore, frz, AV.flat, ↓reduceIte, ne_eq, reduceCtorEq, ByteArray.size, d1, d2]))
  have d2 := decide_eq_false c2
  have d3 : decide (((8 * b.length - i : Nat) : Int) < n) = true := decide_eq_true (by omega)
  repeat (first | refine wA ?_ | refine wB ?_ | refine wC rfl ?_ | refine wD rfl ?_ | refine wE ?_ | refine wF (by omega) ?_ | ((first | refine wG ?_ | refine wH ?_ | refine wI ?_ | refine wJ ?_ | refine wK ?_ | refine wL ?_); simp (disch := omega) only [wP, wZ, undef, seval, if_pos, if_neg, aStore, frz, AV.flat, ↓reduceIte, ne_eq, reduceCtorEq, ByteArray.size, d1, d2]))
  refine goC_h [(1000, 0)] 2000 (huff_left_h nl b hl i hi) (by simp) (by simp) ?_ ?_ ?_
  iterate 2 (case _ => simp (disch := omega) only [wP, wZ, undef, seval, if_pos, if_neg, aStore, frz, AV.flat, ↓reduceIte, ne_eq, reduceCtorEq, ByteArray.size, rdR])
  repeat (first | refine wA ?_ | refine wB ?_ | refine wC rfl ?_ | refine wD rfl ?_ | refine wE ?_ | refine wF (by omega) ?_ | ((first | refine wG ?_ | refine wH ?_ | refine wI ?_ | refine wJ ?_ | refine wK ?_ | refine wL ?_); simp (disch := omega) only [wP, wZ, undef, seval, if_pos, if_neg, aStore, frz, AV.flat, ↓reduceIte, ne_eq, reduceCtorEq, ByteArray.size, d3, rdR, iR]))
set_option maxRecDepth 100000 in
theorem huff_Take_h [Tabs Tryz.prog] (nl : Bool) (b : List UInt8) (hl : b.length ≤ 1000000) (i : Nat) (hi : i ≤ 8 * b.length) (n : Nat) (hn : n ≤ 24) (hn2 : i + n ≤ 8 * b.length) :
    HCon Tryz.prog n_huff_Reader_Take [.op 1000 0 0, int (n : Int)] [.row false (rdR nl b i)] (.tup [int (numAt b i n : Nat), boo true]) [(1000, 0, .row false (rdR nl b (i + n)))] 30 := by
  refine HCon.of' mix Tryz.func55 rfl Tryz.ntmps55 e_huff_Reader_Take r_huff_Reader_Take (by simp) (by simp [AV.gl, AV.gl.glL, int]) rd_gl ?_
  unfold s_huff_Reader_Take
  have d1 : decide ((n : Int) < 0) = false := decide_eq_false (by omega)
  have d2 : decide (24 < (n : Int)) = false := decide_eq_false (by omega)
  have d3 : decide (((8 * b.length - i : Nat) : Int) < (n : Int)) = false := decide_eq_false (by omega)
  repeat (first | refine wA ?_ | refine wB ?_ | refine wC rfl ?_ | refine wD rfl ?_ | refine wE ?_ | refine wF (by omega) ?_ | ((first | refine wG ?_ | refine wH ?_ | refine wI ?_ | refine wJ ?_ | refine wK ?_ | refine wL ?_); simp (disch := omega) only [wP, wZ, undef, seval, if_pos, if_neg, aStore, frz, AV.flat, ↓reduceIte, ne_eq, reduceCtorEq, ByteArray.size, d1, d2]))
  refine goC_h [(1000, 0)] 2000 (huff_left_h nl b hl i hi) (by simp) (by simp) ?_ ?_ ?_
  iterate 2 (case _ => simp (disch := omega) only [wP, wZ, undef, seval, if_pos, if_neg, aStore, frz, AV.flat, ↓reduceIte, ne_eq, reduceCtorEq, ByteArray.size, rdR])
  repeat (first | refine wA ?_ | refine wB ?_ | refine wC rfl ?_ | refine wD rfl ?_ | refine wE ?_ | refine wF (by omega) ?_ | ((first | refine wG ?_ | refine wH ?_ | refine wI ?_ | refine wJ ?_ | refine wK ?_ | refine wL ?_); simp (disch := omega) only [wP, wZ, undef, seval, if_pos, if_neg, aStore, frz, AV.flat, ↓reduceIte, ne_eq, reduceCtorEq, ByteArray.size, d3, rdR]))
  refine SWp.loop (α := Nat) (fun k => mk 32 (2 + k) [(0, .op 1000 0 0), (1, int n), (6, int (numAt b i k : Nat)), (20, int n), (21, int k)] [(1000, 0, .row false (rdR nl b (i + k)))])
    (fun k => k ≤ n) (fun k => n - k) 0 (Nat.zero_le _) (le_mk rfl ?_ ?_ ?_) ?_
  · simp only; omega
  iterate 2 (case _ => simp (disch := omega) only [wP, wZ, undef, seval, if_pos, if_neg, aStore, frz, AV.flat, ↓reduceIte, ne_eq, reduceCtorEq, ByteArray.size, numAt, List.range_zero, numB, rdR])
  rintro k hk -
  repeat (first | refine wA ?_ | refine wB ?_ | refine wC rfl ?_ | refine wD rfl ?_ | refine wE ?_ | refine wF (by omega) ?_ | ((first | refine wG ?_ | refine wH ?_ | refine wI ?_ | refine wJ ?_ | refine wK ?_ | refine wL ?_); simp (disch := omega) only [wP, wZ, undef, seval, if_pos, if_neg, aStore, frz, AV.flat, ↓reduceIte, ne_eq, reduceCtorEq, ByteArray.size]))
  refine SWp.cond rfl (fun h => ?_) (fun h => ?_)
  · simp only [decide_eq_true_eq] at h
    have hkn : k < n := by omega
    have hs := numAt_succ (b := b) (i := i) (n := k)
    have hlt := numAt_lt (b := b) (i := i) (n := k)
    have hbl := bitAt_lt (l := b) (i := i + k)
    have hp : 2 ^ k ≤ 8388608 := two_pow_le (show k ≤ 23 by omega)
    obtain ⟨x, hx⟩ : ∃ x, x = bitAt b (i + k) := ⟨_, rfl⟩
    obtain ⟨y, hy⟩ : ∃ y, y = numAt b i k := ⟨_, rfl⟩
    have hbit := huff_bit_h nl b hl (i + k) (by omega)
    rw [← hx] at hbit hs hbl
    rw [← hy] at hs hlt
    rw [← hy]
    obtain ⟨z, hz⟩ : ∃ z, z = x * 2 ^ k := ⟨_, rfl⟩
    have hor : y ||| z = numAt b i (k + 1) := by
      rw [hs, hz, Nat.mul_comm, Nat.or_comm, ← Nat.two_pow_add_eq_or_of_lt hlt, Nat.add_comm]
    have hzl : z ≤ 8388608 := by
      obtain rfl | rfl : x = 0 ∨ x = 1 := by omega
      · omega
      · omega
    have hyl : y < 8388608 := by omega
    repeat (first | refine wA ?_ | refine wB ?_ | refine wC rfl ?_ | refine wD rfl ?_ | refine wE ?_ | refine wF (by omega) ?_ | ((first | refine wG ?_ | refine wH ?_ | refine wI ?_ | refine wJ ?_ | refine wK ?_ | refine wL ?_); simp (disch := omega) only [wP, wZ, undef, seval, if_pos, if_neg, aStore, frz, AV.flat, ↓reduceIte, ne_eq, reduceCtorEq, ByteArray.size, rdR]))
    refine goC_h [(1000, 0)] 2000 hbit (by simp) (by simp) ?_ ?_ ?_
    iterate 2 (case _ => simp (disch := omega) only [wP, wZ, undef, seval, if_pos, if_neg, aStore, frz, AV.flat, ↓reduceIte, ne_eq, reduceCtorEq, ByteArray.size, rdR])
    repeat (first | refine wA ?_ | refine wB ?_ | refine wC rfl ?_ | refine wD rfl ?_ | refine wE ?_ | refine wF (by omega) ?_ | ((first | refine wG ?_ | refine wH ?_ | refine wI ?_ | refine wJ ?_ | refine wK ?_ | refine wL ?_); simp (disch := omega) only [wP, wZ, undef, seval, if_pos, if_neg, aStore, frz, AV.flat, ↓reduceIte, ne_eq, reduceCtorEq, ByteArray.size, rdR, ← hz, hor]))
    refine At.of (k + 1) (by omega) (by omega) rfl rfl ?_ ?_ ?_
    · simp only; omega
    iterate 2 (case _ => simp (disch := omega) only [wP, wZ, undef, seval, if_pos, if_neg, aStore, frz, AV.flat, ↓reduceIte, ne_eq, reduceCtorEq, ByteArray.size, rdR, Int.add_assoc])
  · simp only [decide_eq_false_iff_not] at h
    obtain rfl : k = n := by omega
    repeat (first | refine wA ?_ | refine wB ?_ | refine wC rfl ?_ | refine wD rfl ?_ | refine wE ?_ | refine wF (by omega) ?_ | ((first | refine wG ?_ | refine wH ?_ | refine wI ?_ | refine wJ ?_ | refine wK ?_ | refine wL ?_); simp (disch := omega) only [wP, wZ, undef, seval, if_pos, if_neg, aStore, frz, AV.flat, ↓reduceIte, ne_eq, reduceCtorEq, ByteArray.size, rdR]))
    omega
theorem huff_Align_h [Tabs Tryz.prog] (nl : Bool) (b : List UInt8) (hl : b.length ≤ 1000000) (i : Nat) (hi : i ≤ 8 * b.length) :
    HCon Tryz.prog n_huff_Reader_Align [.op 1000 0 0] [.row false (rdR nl b i)] (.tup []) [(1000, 0, .row false (rdR nl b ((i + 7) / 8 * 8)))] 1 := by
  refine HCon.of' mix Tryz.func98 rfl Tryz.ntmps98 e_huff_Reader_Align r_huff_Reader_Align (by simp) (by simp [AV.gl, AV.gl.glL]) rd_gl ?_
  unfold s_huff_Reader_Align
  obtain ⟨m, hm⟩ : ∃ m, m = i + 7 := ⟨_, rfl⟩
  have e : (i : Int) + 8 - 1 = (m : Int) := by omega
  rw [← hm]
  repeat (first | refine wA ?_ | refine wB ?_ | refine wC rfl ?_ | refine wD rfl ?_ | refine wE ?_ | refine wF (by omega) ?_ | ((first | refine wG ?_ | refine wH ?_ | refine wI ?_ | refine wJ ?_ | refine wK ?_ | refine wL ?_); simp (disch := omega) only [wP, wZ, undef, seval, if_pos, if_neg, aStore, frz, AV.flat, ↓reduceIte, ne_eq, reduceCtorEq, ByteArray.size, rdR, e]))
  refine ⟨rfl, ?_⟩
  rw [Int.natCast_mul]; rfl
def okBytes (len i : Nat) (n : Int) : Bool := decide (0 ≤ n ∧ n ≤ ((len - (i + 7) / 8 : Nat) : Int))
set_option maxRecDepth 100000 in
theorem huff_Bytes_no [Tabs Tryz.prog] (nl : Bool) (b : List UInt8) (hl : b.length ≤ 1000000) (i : Nat) (hi : i ≤ 8 * b.length) (n : Int) (hn : okBytes b.length i n = false) :
    HCon Tryz.prog n_huff_Reader_Bytes [.op 1000 0 0, int n] [.row false (rdR nl b i)] (.tup [.sc (.slice none 0 0), boo false]) [(1000, 0, .row false (rdR nl b ((i + 7) / 8 * 8)))] 10 := by
  refine HCon.of' mix Tryz.func99 rfl Tryz.ntmps99 e_huff_Reader_Bytes r_huff_Reader_Bytes (by simp) (by simp [AV.gl, AV.gl.glL, int]) rd_gl ?_
  unfold s_huff_Reader_Bytes
  have hn' := of_decide_eq_false hn
  obtain ⟨j, hj⟩ : ∃ j, j = (i + 7) / 8 := ⟨_, rfl⟩
  rw [← hj] at hn' ⊢
  repeat (first | refine wA ?_ | refine wB ?_ | refine wC rfl ?_ | refine wD rfl ?_ | refine wE ?_ | refine wF (by omega) ?_ | ((first | refine wG ?_ | refine wH ?_ | refine wI ?_ | refine wJ ?_ | refine wK ?_ | refine wL ?_); simp (disch := omega) only [wP, wZ, undef, seval, if_pos, if_neg, aStore, frz, AV.flat, ↓reduceIte, ne_eq, reduceCtorEq, ByteArray.size]))
  refine goC_h [(1000, 0)] 2000 (huff_Align_h nl b hl i hi) (by simp) (by simp) ?_ ?_ ?_
  iterate 2 (case _ => simp (disch := omega) only [wP, wZ, undef, seval, if_pos, if_neg, aStore, frz, AV.flat, ↓reduceIte, ne_eq, reduceCtorEq, ByteArray.size, rdR])
  rw [← hj]
  by_cases c1 : n < 0
  · have d1 := decide_eq_true c1
    repeat (first | refine wA ?_ | refine wB ?_ | refine wC rfl ?_ | refine wD rfl ?_ | refine wE ?_ | refine wF (by omega) ?_ | ((first | refine wG ?_ | refine wH ?_ | refine wI ?_ | refine wJ ?_ | refine wK ?_ | refine wL ?_); simp (disch := omega) only [wP, wZ, undef, seval, if_pos, if_neg, aStore, frz, AV.flat, ↓reduceIte, ne_eq, reduceCtorEq, ByteArray.size, d1, rdR]))
  have d1 := decide_eq_false c1
  have d3 : decide (((8 * b.length - j * 8 : Nat) : Int) / 8 < n) = true := decide_eq_true (by omega)
  have d3' : decide ((((8 * b.length - j * 8) / 8 : Nat) : Int) < n) = true := decide_eq_true (by omega)
  repeat (first | refine wA ?_ | refine wB ?_ | refine wC rfl ?_ | refine wD rfl ?_ | refine wE ?_ | refine wF (by omega) ?_ | ((first | refine wG ?_ | refine wH ?_ | refine wI ?_ | refine wJ ?_ | refine wK ?_ | refine wL ?_); simp (disch := omega) only [wP, wZ, undef, seval, if_pos, if_neg, aStore, frz, AV.flat, ↓reduceIte, ne_eq, reduceCtorEq, ByteArray.size, d1, rdR]))
  refine goC_h [(1000, 0)] 3000 (huff_left_h nl b hl (j * 8) (by omega)) (by simp) (by simp) ?_ ?_ ?_
  iterate 2 (case _ => simp (disch := omega) only [wP, wZ, undef, seval, if_pos, if_neg, aStore, frz, AV.flat, ↓reduceIte, ne_eq, reduceCtorEq, ByteArray.size, rdR])
  repeat (first | refine wA ?_ | refine wB ?_ | refine wC rfl ?_ | refine wD rfl ?_ | refine wE ?_ | refine wF (by omega) ?_ | ((first | refine wG ?_ | refine wH ?_ | refine wI ?_ | refine wJ ?_ | refine wK ?_ | refine wL ?_); simp (disch := omega) only [wP, wZ, undef, seval, if_pos, if_neg, aStore, frz, AV.flat, ↓reduceIte, ne_eq, reduceCtorEq, ByteArray.size, d3', rdR]))
set_option maxRecDepth 100000 in
theorem huff_Bytes_h [Tabs Tryz.prog] (nl : Bool) (b : List UInt8) (hl : b.length ≤ 1000000) (hnl : nl = true → b = []) (i : Nat) (hi : i ≤ 8 * b.length) (j : Nat) (hj : j = (i + 7) / 8) (n : Nat) (hn : n + j ≤ b.length) :
    HCon Tryz.prog n_huff_Reader_Bytes [.op 1000 0 0, int (n : Int)] [.row false (rdR nl b i)] (.tup [.sl nl none (((b.drop j).take n).map u8), boo true]) [(1000, 0, .row false (rdR nl b (8 * (j + n))))] 10 := by
  refine HCon.of' mix Tryz.func99 rfl Tryz.ntmps99 e_huff_Reader_Bytes r_huff_Reader_Bytes (by simp) (by simp [AV.gl, AV.gl.glL, int]) rd_gl ?_
  unfold s_huff_Reader_Bytes
  repeat (first | refine wA ?_ | refine wB ?_ | refine wC rfl ?_ | refine wD rfl ?_ | refine wE ?_ | refine wF (by omega) ?_ | ((first | refine wG ?_ | refine wH ?_ | refine wI ?_ | refine wJ ?_ | refine wK ?_ | refine wL ?_); simp (disch := omega) only [wP, wZ, undef, seval, if_pos, if_neg, aStore, frz, AV.flat, ↓reduceIte, ne_eq, reduceCtorEq, ByteArray.size]))
  refine goC_h [(1000, 0)] 2000 (huff_Align_h nl b hl i hi) (by simp) (by simp) ?_ ?_ ?_
  iterate 2 (case _ => simp (disch := omega) only [wP, wZ, undef, seval, if_pos, if_neg, aStore, frz, AV.flat, ↓reduceIte, ne_eq, reduceCtorEq, ByteArray.size, rdR])
  rw [← hj]
  have d1 : decide ((n : Int) < 0) = false := decide_eq_false (by omega)
  have d3 : decide ((((8 * b.length - j * 8) / 8 : Nat) : Int) < (n : Int)) = false := decide_eq_false (by omega)
  have hnl' : nl = true → (b.drop j).take n = [] := fun h => by rw [hnl h]; simp
  have e2 : j * 8 / 8 = j := by omega
  have hl2 : ((b.drop j).take n).length ≤ 1000000 := by rw [List.length_take, List.length_drop]; omega
  have hdt : (b.take (j + n)).drop j = (b.drop j).take n := by rw [List.drop_take]; congr 1; omega
  have e3 : 8 * (j + n) = j * 8 + n * 8 := by omega
  rw [e3]
  repeat (first | refine wA ?_ | refine wB ?_ | refine wC rfl ?_ | refine wD rfl ?_ | refine wE ?_ | refine wF (by omega) ?_ | ((first | refine wG ?_ | refine wH ?_ | refine wI ?_ | refine wJ ?_ | refine wK ?_ | refine wL ?_); simp (disch := omega) only [wP, wZ, undef, seval, if_pos, if_neg, aStore, frz, AV.flat, ↓reduceIte, ne_eq, reduceCtorEq, ByteArray.size, d1, rdR]))
  refine goC_h [(1000, 0)] 3000 (huff_left_h nl b hl (j * 8) (by omega)) (by simp) (by simp) ?_ ?_ ?_
  iterate 2 (case _ => simp (disch := omega) only [wP, wZ, undef, seval, if_pos, if_neg, aStore, frz, AV.flat, ↓reduceIte, ne_eq, reduceCtorEq, ByteArray.size, rdR])
  repeat (first | refine wA ?_ | refine wB ?_ | refine wC rfl ?_ | refine wD rfl ?_ | refine wE ?_ | refine wF (by omega) ?_ | ((first | refine wG ?_ | refine wH ?_ | refine wI ?_ | refine wJ ?_ | refine wK ?_ | refine wL ?_); simp (disch := omega) only [wP, wZ, undef, seval, if_pos, if_neg, aStore, frz, AV.flat, ↓reduceIte, ne_eq, reduceCtorEq, ByteArray.size, d3, rdR, e2, hdt]))
  refine goC_p _ (.inl ⟨by simp only [AV.free, AV.free.freeL, free_u8, Bool.and_self], bytes_Clone_c nl _ hl2 hnl'⟩) ?_
  repeat (first | refine wA ?_ | refine wB ?_ | refine wC rfl ?_ | refine wD rfl ?_ | refine wE ?_ | refine wF (by omega) ?_ | ((first | refine wG ?_ | refine wH ?_ | refine wI ?_ | refine wJ ?_ | refine wK ?_ | refine wL ?_); simp (disch := omega) only [wP, wZ, undef, seval, if_pos, if_neg, aStore, frz, AV.flat, ↓reduceIte, ne_eq, reduceCtorEq, ByteArray.size, rdR]))
  rw [Int.natCast_mul n 8]; rfl
end Go.Proofs.YtbcncdpaigljeaaGreatDoor.Aw
namespace Go.Proofs.YtbcncdpaigljeaaGreatDoor.Aw
open Go
set_option linter.unusedSimpArgs false
set_option linter.unusedVariables false
set_option maxRecDepth 100000 in
theorem gz_take_h [Tabs Tryz.prog] (nl : Bool) (b : List UInt8) (hl : b.length ≤ 1000000) (i n : Nat) (hn : i + n ≤ b.length) :
    HCon Tryz.prog n_gzip_reader_take [.op 1000 0 0, int (n : Int)] [.row false (rdR nl b i)] (.tup [.sl nl none (((b.drop i).take n).map u8), int 0]) [(1000, 0, .row false (rdR nl b (i + n)))] 1 := by
  refine HCon.of' mix Tryz.func114 rfl Tryz.ntmps114 e_gzip_reader_take r_gzip_reader_take (by simp) (by simp [AV.gl, AV.gl.glL, int]) rd_gl ?_
  unfold s_gzip_reader_take
  have d1 : decide ((b.length : Int) - (i : Int) < (n : Int)) = false := decide_eq_false (by omega)
  have hdt : (b.take (i + n)).drop i = (b.drop i).take n := by rw [List.drop_take]; congr 1; omega
  have hc : ((i : Int) + (n : Int)).toNat = i + n := by omega
  have he : ((i + n : Nat) : Int) = (i : Int) + (n : Int) := by omega
  repeat (first | refine wA ?_ | refine wB ?_ | refine wC rfl ?_ | refine wD rfl ?_ | refine wE ?_ | refine wF (by omega) ?_ | ((first | refine wG ?_ | refine wH ?_ | refine wI ?_ | refine wJ ?_ | refine wK ?_ | refine wL ?_); simp (disch := omega) only [wP, wZ, undef, seval, if_pos, if_neg, aStore, frz, AV.flat, ↓reduceIte, ne_eq, reduceCtorEq, ByteArray.size, rdR, d1, hc, hdt, he, List.length_map]))
  all_goals trace_state
set_option maxRecDepth 100000 in
theorem gz_text_h [Tabs Tryz.prog] (nl : Bool) (b : List UInt8) (hl : b.length ≤ 1000000) (i k : Nat) (hk : Lib.indexByte (b.drop i) 0 = (k : Int)) (hn : i + k < b.length) :
    HCon Tryz.prog n_gzip_reader_text [.op 1000 0 0] [.row false (rdR nl b i)] (.tup [.sl nl none (((b.drop i).take k).map u8), int 0]) [(1000, 0, .row false (rdR nl b (i + (k + 1))))] 1 := by
  refine HCon.of' mix Tryz.func118 rfl Tryz.ntmps118 e_gzip_reader_text r_gzip_reader_text (by simp) (by simp [AV.gl, AV.gl.glL, int]) rd_gl ?_
  unfold s_gzip_reader_text
  have p1 := bytes_IndexByte_c nl (b.drop i) (fun e => by have := congrArg List.length e; rw [List.length_drop, List.length_nil] at this; omega) 0
  rw [hk] at p1
  have d1 : decide ((k : Int) < 0) = false := decide_eq_false (by omega)
  have hdt : (b.take (i + k)).drop i = (b.drop i).take k := by rw [List.drop_take]; congr 1; omega
  have hc : ((i : Int) + (k : Int)).toNat = i + k := by omega
  have he : ((i + (k + 1) : Nat) : Int) = (i : Int) + ((k : Int) + 1) := by omega
  have htl : b.take b.length = b := List.take_length
  repeat (first | refine wA ?_ | refine wB ?_ | refine wC rfl ?_ | refine wD rfl ?_ | refine wE ?_ | refine wF (by omega) ?_ | ((first | refine wG ?_ | refine wH ?_ | refine wI ?_ | refine wJ ?_ | refine wK ?_ | refine wL ?_); simp (disch := omega) only [wP, wZ, undef, seval, if_pos, if_neg, aStore, frz, AV.flat, ↓reduceIte, ne_eq, reduceCtorEq, ByteArray.size, rdR, List.length_map, htl]))
  refine goC_p _ (.inl ⟨by simp only [AV.free, AV.free.freeL, free_u8, Bool.and_self], p1⟩) ?_
  repeat (first | refine wA ?_ | refine wB ?_ | refine wC rfl ?_ | refine wD rfl ?_ | refine wE ?_ | refine wF (by omega) ?_ | ((first | refine wG ?_ | refine wH ?_ | refine wI ?_ | refine wJ ?_ | refine wK ?_ | refine wL ?_); simp (disch := omega) only [wP, wZ, undef, seval, if_pos, if_neg, aStore, frz, AV.flat, ↓reduceIte, ne_eq, reduceCtorEq, ByteArray.size, rdR, d1, hc, hdt, he, List.length_map]))
  all_goals trace_state
set_option maxRecDepth 100000 in
theorem gz_name_h [Tabs Tryz.prog] (nl : Bool) (b : List UInt8) (hl : b.length ≤ 1000000) (i k : Nat) (hk : Lib.indexByte (b.drop i) 0 = (k : Int)) (hn : i + k < b.length) (h2 : k ≤ 200) (nm : List UInt8) (hnm : (b.drop i).take k = nm) :
    HCon Tryz.prog n_gzip_reader_name [.op 1000 0 0] [.row false (rdR nl b i)] (.tup [str nm, int 0]) [(1000, 0, .row false (rdR nl b (i + (k + 1))))] 5 := by
  refine HCon.of' mix Tryz.func117 rfl Tryz.ntmps117 e_gzip_reader_name r_gzip_reader_name (by simp) (by simp [AV.gl, AV.gl.glL, int]) rd_gl ?_
  unfold s_gzip_reader_name
  have p1 := gz_text_h nl b hl i k hk hn
  rw [hnm] at p1
  have hnl : nm.length = k := by rw [← hnm, List.length_take, List.length_drop]; omega
  have d1 : decide ((200 : Int) < (k : Int)) = false := decide_eq_false (by omega)
  repeat (first | refine wA ?_ | refine wB ?_ | refine wC rfl ?_ | refine wD rfl ?_ | refine wE ?_ | refine wF (by omega) ?_ | ((first | refine wG ?_ | refine wH ?_ | refine wI ?_ | refine wJ ?_ | refine wK ?_ | refine wL ?_); simp (disch := omega) only [wP, wZ, undef, seval, if_pos, if_neg, aStore, frz, AV.flat, ↓reduceIte, ne_eq, reduceCtorEq, ByteArray.size]))
  refine goC_h [(1000, 0)] 2000 p1 (by simp) (by simp) ?_ ?_ ?_
  iterate 2 (case _ => simp (disch := omega) only [wP, wZ, undef, seval, if_pos, if_neg, aStore, frz, AV.flat, ↓reduceIte, ne_eq, reduceCtorEq, ByteArray.size, rdR])
  repeat (first | refine wA ?_ | refine wB ?_ | refine wC rfl ?_ | refine wD rfl ?_ | refine wE ?_ | refine wF (by omega) ?_ | ((first | refine wG ?_ | refine wH ?_ | refine wI ?_ | refine wJ ?_ | refine wK ?_ | refine wL ?_); simp (disch := omega) only [wP, wZ, undef, seval, if_pos, if_neg, aStore, frz, AV.flat, ↓reduceIte, ne_eq, reduceCtorEq, ByteArray.size, rdR, d1, List.length_map, hnl]))
  all_goals trace_state
set_option maxRecDepth 100000 in
theorem gz_told0_h [Tabs Tryz.prog] (nl : Bool) (b : List UInt8) (i : Nat) :
    HCon Tryz.prog n_gzip_reader_told [.op 1000 0 0, .sc (.int .u8 0)] [.row false (rdR nl b i)] (.tup [str [], int 0]) [(1000, 0, .row false (rdR nl b i))] 10 := by
  refine HCon.of' mix Tryz.func74 rfl Tryz.ntmps74 e_gzip_reader_told r_gzip_reader_told (by simp) (by simp [AV.gl, AV.gl.glL, int]) rd_gl ?_
  unfold s_gzip_reader_told
  repeat (first | refine wA ?_ | refine wB ?_ | refine wC rfl ?_ | refine wD rfl ?_ | refine wE ?_ | refine wF (by omega) ?_ | ((first | refine wG ?_ | refine wH ?_ | refine wI ?_ | refine wJ ?_ | refine wK ?_ | refine wL ?_); simp (disch := omega) only [wP, wZ, undef, seval, if_pos, if_neg, aStore, frz, AV.flat, ↓reduceIte, ne_eq, reduceCtorEq, ByteArray.size, rdR]))
  all_goals trace_state
set_option maxRecDepth 100000 in
theorem gz_told8_h [Tabs Tryz.prog] (nl : Bool) (b : List UInt8) (hl : b.length ≤ 1000000) (i k : Nat) (hk : Lib.indexByte (b.drop i) 0 = (k : Int)) (hn : i + k < b.length) (h2 : k ≤ 200) (nm : List UInt8) (hnm : (b.drop i).take k = nm) :
    HCon Tryz.prog n_gzip_reader_told [.op 1000 0 0, .sc (.int .u8 8)] [.row false (rdR nl b i)] (.tup [str nm, int 0]) [(1000, 0, .row false (rdR nl b (i + (k + 1))))] 10 := by
  refine HCon.of' mix Tryz.func74 rfl Tryz.ntmps74 e_gzip_reader_told r_gzip_reader_told (by simp) (by simp [AV.gl, AV.gl.glL, int]) rd_gl ?_
  unfold s_gzip_reader_told
  have p1 := gz_name_h nl b hl i k hk hn h2 nm hnm
  repeat (first | refine wA ?_ | refine wB ?_ | refine wC rfl ?_ | refine wD rfl ?_ | refine wE ?_ | refine wF (by omega) ?_ | ((first | refine wG ?_ | refine wH ?_ | refine wI ?_ | refine wJ ?_ | refine wK ?_ | refine wL ?_); simp (disch := omega) only [wP, wZ, undef, seval, if_pos, if_neg, aStore, frz, AV.flat, ↓reduceIte, ne_eq, reduceCtorEq, ByteArray.size]))
  refine goC_h [(1000, 0)] 2000 p1 (by simp) (by simp) ?_ ?_ ?_
  iterate 2 (case _ => simp (disch := omega) only [wP, wZ, undef, seval, if_pos, if_neg, aStore, frz, AV.flat, ↓reduceIte, ne_eq, reduceCtorEq, ByteArray.size, rdR])
  repeat (first | refine wA ?_ | refine wB ?_ | refine wC rfl ?_ | refine wD rfl ?_ | refine wE ?_ | refine wF (by omega) ?_ | ((first | refine wG ?_ | refine wH ?_ | refine wI ?_ | refine wJ ?_ | refine wK ?_ | refine wL ?_); simp (disch := omega) only [wP, wZ, undef, seval, if_pos, if_neg, aStore, frz, AV.flat, ↓reduceIte, ne_eq, reduceCtorEq, ByteArray.size, rdR]))
  all_goals trace_state
theorem leN_le4 {n : Nat} (h : n < 4294967296) : leN (leB n 4) = n := by
  rw [leB4]
  simp [leN, beN]
  omega
theorem hd_cut {nm : List UInt8} {mt : Nat} {R : List UInt8} : ((hdB nm mt ++ R).drop 0).take 10 = 31 :: 139 :: 8 :: (if nm = [] then 0 else 8) :: (leB mt 4 ++ [0, 3]) := by
  rw [List.drop_zero, hdB, leB4]
  rfl
set_option maxRecDepth 100000 in
theorem gz_head_h [Tabs Tryz.prog] (nl : Bool) (nm : List UInt8) (mt : Nat) (hm : mt < 4294967296) (R b : List UInt8) (hb : b = hdB nm mt ++ R) (hl : b.length ≤ 1000000) (fl : UInt8) (hfl : fl = if nm = [] then 0 else 8) :
    HCon Tryz.prog n_gzip_reader_head [.op 1000 0 0] [.row false (rdR nl b 0)] (.tup [u8 fl, int (mt : Int), int 0]) [(1000, 0, .row false (rdR nl b 10))] 5 := by
  refine HCon.of' mix Tryz.func73 rfl Tryz.ntmps73 e_gzip_reader_head r_gzip_reader_head (by simp) (by simp [AV.gl, AV.gl.glL, int]) rd_gl ?_
  unfold s_gzip_reader_head
  have hlen := hdB_len (nm := nm) (mt := mt)
  have p1 := gz_take_h nl b hl 0 10 (by rw [hb, List.length_append]; omega)
  have hw : (b.drop 0).take 10 = 31 :: 139 :: 8 :: fl :: (leB mt 4 ++ [0, 3]) := by rw [hb, hfl]; exact hd_cut
  have p2 := codec_GetLe_c nl (31 :: 139 :: 8 :: fl :: (leB mt 4 ++ [0, 3])) (by simp [leB]) 4 4
  have hr : getLeR (31 :: 139 :: 8 :: fl :: (leB mt 4 ++ [0, 3])) 4 4 = .tup [.sc (.int .u64 (mt : Int)), boo true] := by
    have e1 : ((31 :: 139 :: 8 :: fl :: (leB mt 4 ++ [0, 3])).drop 4).take 4 = leB mt 4 := by rw [leB4]; rfl
    have e2 : stB (31 :: 139 :: 8 :: fl :: (leB mt 4 ++ [0, 3])).length 4 4 = true := by
      simp [leB, stB]
    unfold getLeR
    rw [if_pos e2, show ((4 : Int).toNat) = 4 from rfl, e1, leN_le4 hm]
  rw [hr] at p2
  rw [hw] at p1
  obtain ⟨V, hV⟩ : ∃ V, V = leB mt 4 ++ [0, 3] := ⟨_, rfl⟩
  have hVl : V.length = 6 := by rw [hV, List.length_append, length_leB4]; rfl
  rw [← hV] at p1 p2
  have hwr : IntKind.i64.wrap (mt : Int) = (mt : Int) := wrap_i64_id (by omega) (by omega)
  have hf8 : fl = 0 ∨ fl = 8 := by by_cases c : nm = []; exact .inl (by rw [hfl, if_pos c]); exact .inr (by rw [hfl, if_neg c])
  obtain ⟨F, hF⟩ : ∃ F : Int, F = (fl.toNat : Int) := ⟨_, rfl⟩
  clear hfl hw hr hb hlen
  rcases hf8 with rfl | rfl
  all_goals
    repeat (first | refine wA ?_ | refine wB ?_ | refine wC rfl ?_ | refine wD rfl ?_ | refine wE ?_ | refine wF (by omega) ?_ | ((first | refine wG ?_ | refine wH ?_ | refine wI ?_ | refine wJ ?_ | refine wK ?_ | refine wL ?_); simp (disch := omega) only [wP, wZ, undef, seval, if_pos, if_neg, aStore, frz, AV.flat, ↓reduceIte, ne_eq, reduceCtorEq, ByteArray.size]))
    refine goC_h [(1000, 0)] 2000 p1 (by simp) (by simp) ?_ ?_ ?_
    iterate 2 (case _ => simp (disch := omega) only [wP, wZ, undef, seval, if_pos, if_neg, aStore, frz, AV.flat, ↓reduceIte, ne_eq, reduceCtorEq, ByteArray.size, rdR])
    repeat (first | refine wA ?_ | refine wB ?_ | refine wC rfl ?_ | refine wD rfl ?_ | refine wE ?_ | refine wF (by omega) ?_ | ((first | refine wG ?_ | refine wH ?_ | refine wI ?_ | refine wJ ?_ | refine wK ?_ | refine wL ?_); simp (disch := omega) only [wP, wZ, undef, seval, if_pos, if_neg, aStore, frz, AV.flat, ↓reduceIte, ne_eq, reduceCtorEq, ByteArray.size, rdR, hVl, List.length_map]))
    refine goC_p _ (.inl ⟨by simp only [AV.free, AV.free.freeL, free_u8, Bool.and_self], p2⟩) ?_
    repeat (first | refine wA ?_ | refine wB ?_ | refine wC rfl ?_ | refine wD rfl ?_ | refine wE ?_ | refine wF (by omega) ?_ | ((first | refine wG ?_ | refine wH ?_ | refine wI ?_ | refine wJ ?_ | refine wK ?_ | refine wL ?_); simp (disch := omega) only [wP, wZ, undef, seval, if_pos, if_neg, aStore, frz, AV.flat, ↓reduceIte, ne_eq, reduceCtorEq, ByteArray.size, rdR, hVl, hwr, List.length_map]))
    all_goals trace_state
end Go.Proofs.YtbcncdpaigljeaaGreatDoor.Aw
namespace Go.Proofs.YtbcncdpaigljeaaGreatDoor.Aw
open Go
set_option linter.unusedSimpArgs false
set_option linter.unusedVariables false
set_option maxRecDepth 100000 in
theorem gz_data_h [Tabs Tryz.prog] (nl : Bool) (b : List UInt8) (hl : b.length ≤ 1000000) (i : Nat) (R : List UInt8) (hR : b.drop i = R) (h4 : R.length ≤ 4096) (hi : i ≤ b.length) (room : Int) (nd : Bool) (D : List UInt8) (used : Nat)
    (hI : Con Tryz.prog n_inflate_Inflate [.sl nl none (R.map u8), int room] (.tup [.sl nd none (D.map u8), int (used : Int), int 0])) (hu : used ≤ R.length) :
    HCon Tryz.prog n_gzip_reader_data [.op 1000 0 0, int room] [.row false (rdR nl b i)] (.tup [.sl nd none (D.map u8), int 0]) [(1000, 0, .row false (rdR nl b (i + used)))] 5 := by
  refine HCon.of' mix Tryz.func75 rfl Tryz.ntmps75 e_gzip_reader_data r_gzip_reader_data (by simp) (by simp [AV.gl, AV.gl.glL, int]) rd_gl ?_
  unfold s_gzip_reader_data
  have hRl : R.length = b.length - i := by rw [← hR, List.length_drop]
  have htl : b.take b.length = b := List.take_length
  have htR : R.take R.length = R := List.take_length
  have d1 : ((4096 : Int) < (R.length : Int)) = False := eq_false (by omega)
  have d2 : ((R.length : Int) < 4096) = True ∨ R.length = 4096 := by
    by_cases c : R.length = 4096
    · exact .inr c
    · exact .inl (eq_true (by omega))
  have hm : (if (R.length : Int) < 4096 then (R.length : Int) else 4096) = (R.length : Int) := by split <;> omega
  have he : ((i + used : Nat) : Int) = (i : Int) + (used : Int) := by omega
  repeat (first | refine wA ?_ | refine wB ?_ | refine wC rfl ?_ | refine wD rfl ?_ | refine wE ?_ | refine wF (by omega) ?_ | ((first | refine wG ?_ | refine wH ?_ | refine wI ?_ | refine wJ ?_ | refine wK ?_ | refine wL ?_); simp (disch := omega) only [wP, wZ, undef, seval, if_pos, if_neg, aStore, frz, AV.flat, ↓reduceIte, ne_eq, reduceCtorEq, ByteArray.size, rdR, List.length_map, htl, hR]))
  refine SWp.unroll ?_
  repeat (first | refine wA ?_ | refine wB ?_ | refine wC rfl ?_ | refine wD rfl ?_ | refine wE ?_ | refine wF (by omega) ?_ | ((first | refine wG ?_ | refine wH ?_ | refine wI ?_ | refine wJ ?_ | refine wK ?_ | refine wL ?_); simp (disch := omega) only [wP, wZ, undef, seval, if_pos, if_neg, aStore, frz, AV.flat, ↓reduceIte, ne_eq, reduceCtorEq, ByteArray.size, rdR, List.length_map, htR, hm]))
  refine goC_p _ (.inl ⟨by simp only [AV.free, AV.free.freeL, free_u8, int, Bool.and_self], hI⟩) ?_
  repeat (first | refine wA ?_ | refine wB ?_ | refine wC rfl ?_ | refine wD rfl ?_ | refine wE ?_ | refine wF (by omega) ?_ | ((first | refine wG ?_ | refine wH ?_ | refine wI ?_ | refine wJ ?_ | refine wK ?_ | refine wL ?_); simp (disch := omega) only [wP, wZ, undef, seval, if_pos, if_neg, aStore, frz, AV.flat, ↓reduceIte, ne_eq, reduceCtorEq, ByteArray.size, rdR, List.length_map, he]))
theorem like8 : ∀ {t : List UInt8}, t.length = 8 → likeA (.agg #[.int .u8 0, .int .u8 0, .int .u8 0, .int .u8 0, .int .u8 0, .int .u8 0, .int .u8 0, .int .u8 0]) (.agg (t.map u8)) = True
  | [a, b, c, d, e, f, g, h], _ => by
    have := a.toNat_lt; have := b.toNat_lt; have := c.toNat_lt; have := d.toNat_lt
    have := e.toNat_lt; have := f.toNat_lt; have := g.toNat_lt; have := h.toNat_lt
    have k1 : IntKind.u8.min = 0 := rfl
    have k2 : IntKind.u8.max = 255 := rfl
    refine eq_true ?_
    simp only [likeA, likeAL, likeA1, List.map_cons, List.map_nil, u8, k1, k2, and_true, true_and]
    omega
theorem u8L_inj {a b : List UInt8} (h : a.map u8 = b.map u8) : a = b := (List.map_inj_right (fun x y e => by simp only [u8, AV.sc.injEq, Value.int.injEq, true_and] at e; exact UInt8.toNat_inj.1 (by omega))).1 h
set_option maxRecDepth 100000 in
theorem gz_rtail_h [Tabs Tryz.prog] (nl : Bool) (b : List UInt8) (hl : b.length ≤ 1000000) (i : Nat) (hi : i + 8 ≤ b.length) (nd : Bool) (D : List UInt8) (hD : D.length ≤ 1000000) (t : List UInt8) (ht : (b.drop i).take 8 = t) (e : Int) (he : e = if t = tlB D then 0 else 5) :
    HCon Tryz.prog n_gzip_reader_tail [.op 1000 0 0, .sl nd none (D.map u8)] [.row false (rdR nl b i)] (int e) [(1000, 0, .row false (rdR nl b (i + 8)))] 10 := by
  refine HCon.of' mix Tryz.func76 rfl Tryz.ntmps76 e_gzip_reader_tail r_gzip_reader_tail (by simp) (by simp only [AV.gl, AV.gl.glL, and_true]; exact ⟨by omega, glL_of_free _ _ free_u8⟩) rd_gl ?_
  unfold s_gzip_reader_tail
  have p1 := gz_take_h nl b hl i 8 hi
  rw [ht] at p1
  have htl : t.length = 8 := by rw [← ht, List.length_take, List.length_drop]; omega
  have p2 := gz_tail_c nd D hD
  have hTl : (tlB D).length = 8 := by rw [tlB, List.length_append, length_leB4, length_leB4]
  have l1 := like8 htl
  have l2 := like8 hTl
  have hq : eqB (.agg (t.map u8)) (.agg ((tlB D).map u8)) = decide (t = tlB D) := by
    by_cases c : t = tlB D
    · rw [decide_eq_true c]; exact eqB_t (by rw [c])
    · rw [decide_eq_false c]
      exact eqB_f (fun e => c (u8L_inj (by injection e)))
  obtain ⟨T, hT⟩ : ∃ T, T = tlB D := ⟨_, rfl⟩
  rw [← hT] at p2 hTl l2 hq he
  have t8 : (t.map u8).take 8 = t.map u8 := List.take_of_length_le (by simp; omega)
  have hc : ((i + 8 : Nat) : Int) = (i : Int) + 8 := by omega
  repeat (first | refine wA ?_ | refine wB ?_ | refine wC rfl ?_ | refine wD rfl ?_ | refine wE ?_ | refine wF (by omega) ?_ | ((first | refine wG ?_ | refine wH ?_ | refine wI ?_ | refine wJ ?_ | refine wK ?_ | refine wL ?_); simp (disch := omega) only [wP, wZ, undef, seval, if_pos, if_neg, aStore, frz, AV.flat, ↓reduceIte, ne_eq, reduceCtorEq, ByteArray.size]))
  refine goC_h [(1000, 0)] 2000 p1 (by simp) (by simp) ?_ ?_ ?_
  iterate 2 (case _ => simp (disch := omega) only [wP, wZ, undef, seval, if_pos, if_neg, aStore, frz, AV.flat, ↓reduceIte, ne_eq, reduceCtorEq, ByteArray.size, rdR])
  repeat (first | refine wA ?_ | refine wB ?_ | refine wC rfl ?_ | refine wD rfl ?_ | refine wE ?_ | refine wF (by omega) ?_ | ((first | refine wG ?_ | refine wH ?_ | refine wI ?_ | refine wJ ?_ | refine wK ?_ | refine wL ?_); simp (disch := omega) only [wP, wZ, undef, seval, if_pos, if_neg, aStore, frz, AV.flat, ↓reduceIte, ne_eq, reduceCtorEq, ByteArray.size, rdR, htl, t8, List.length_map]))
  refine goC_p _ (.inl ⟨by simp only [AV.free, AV.free.freeL, free_u8, Bool.and_self], p2⟩) ?_
  by_cases c : t = T
  · rw [decide_eq_true c] at hq
    rw [if_pos c] at he
    subst he
    repeat (first | refine wA ?_ | refine wB ?_ | refine wC rfl ?_ | refine wD rfl ?_ | refine wE ?_ | refine wF (by omega) ?_ | ((first | refine wG ?_ | refine wH ?_ | refine wI ?_ | refine wJ ?_ | refine wK ?_ | refine wL ?_); simp (disch := omega) only [wP, wZ, undef, seval, if_pos, if_neg, aStore, frz, AV.flat, ↓reduceIte, ne_eq, reduceCtorEq, ByteArray.size, rdR, hq, l1, l2, htl, t8, List.length_map]))
  · rw [decide_eq_false c] at hq
    rw [if_neg c] at he
    subst he
    repeat (first | refine wA ?_ | refine wB ?_ | refine wC rfl ?_ | refine wD rfl ?_ | refine wE ?_ | refine wF (by omega) ?_ | ((first | refine wG ?_ | refine wH ?_ | refine wI ?_ | refine wJ ?_ | refine wK ?_ | refine wL ?_); simp (disch := omega) only [wP, wZ, undef, seval, if_pos, if_neg, aStore, frz, AV.flat, ↓reduceIte, ne_eq, reduceCtorEq, ByteArray.size, rdR, hq, l1, l2, htl, t8, List.length_map]))
end Go.Proofs.YtbcncdpaigljeaaGreatDoor.Aw
namespace Go.Proofs.YtbcncdpaigljeaaGreatDoor.Aw
open Go
set_option linter.unusedSimpArgs false
set_option linter.unusedVariables false
theorem index_name {nm R : List UInt8} (h : Lib.indexByte nm 0 < 0) : Lib.indexByte (nm ++ 0 :: R) 0 = (nm.length : Int) := by
  refine indexByte_some _ _ _ (by simp) (by simp [List.getD]) fun k hk e => ?_
  have he : nm.getD k 0 = 0 := by simpa [List.getD, List.getElem?_append_left hk] using e
  have : ∃ j : Nat, Lib.indexByte nm 0 = (j : Int) := by
    have key : ∀ (l : List UInt8) (k : Nat), k < l.length → l.getD k 0 = 0 → 0 ≤ Lib.indexByte l 0 := by
      intro l
      induction l with
      | nil => intro k hk; simp at hk
      | cons x l ih =>
        intro k hk e
        simp only [Lib.indexByte]
        split
        · omega
        · rename_i hx
          cases k with
          | zero => simp only [List.getD_cons_zero] at e; subst e; simp at hx
          | succ k =>
            have := ih k (by simpa using hk) (by simpa using e)
            split
            · rename_i h1
              have h1 : Lib.indexByte l 0 = -1 := by simpa using h1
              omega
            · omega
    exact ⟨(Lib.indexByte nm 0).toNat, by have := key nm k hk he; omega⟩
  obtain ⟨j, hj⟩ := this
  omega
def gotM (ok : Bool) (nm : List UInt8) (mt : Nat) (nd : Bool) (D : List UInt8) : AV := if ok then .tup [.agg [str nm, int (mt : Int), .sl nd none (D.map u8)], int 0] else .tup [.agg [str [], int 0, .sc (.slice none 0 0)], int 5]
set_option maxHeartbeats 1000000 in
set_option maxRecDepth 100000 in
theorem gz_member_h [Tabs Tryz.prog] (nl : Bool) (nm : List UInt8) (hn : nm.length ≤ 200) (hz : Lib.indexByte nm 0 < 0) (mt : Nat) (hm : mt < 4294967296) (R b : List UInt8) (hb : b = hdB nm mt ++ R) (hl : b.length ≤ 1000000) (h4 : R.length ≤ 4096) (room : Int) (nd : Bool) (D : List UInt8) (hD : D.length ≤ 1000000) (used : Nat)
    (hI : Con Tryz.prog n_inflate_Inflate [.sl nl none (R.map u8), int room] (.tup [.sl nd none (D.map u8), int (used : Int), int 0])) (hu : used + 8 ≤ R.length) (ok : Bool) (hok : ok = decide ((R.drop used).take 8 = tlB D)) :
    HCon Tryz.prog n_gzip_reader_member [.op 1000 0 0, int room] [.row false (rdR nl b 0)] (gotM ok nm mt nd D) [(1000, 0, .row false (rdR nl b ((hdB nm mt).length + used + 8)))] 40 := by
  refine HCon.of' mix Tryz.func43 rfl Tryz.ntmps43 e_gzip_reader_member r_gzip_reader_member (by simp) (by simp [AV.gl, AV.gl.glL, int]) rd_gl ?_
  unfold s_gzip_reader_member
  have hbl : b.length = (hdB nm mt).length + R.length := by rw [hb, List.length_append]
  obtain ⟨p, hp⟩ : ∃ p, p = (hdB nm mt).length := ⟨_, rfl⟩
  have hdp : b.drop p = R := by rw [hb, hp, List.drop_left]
  have p1 := gz_head_h nl nm mt hm R b hb hl _ rfl
  have p3 := gz_data_h nl b hl p R hdp h4 (by omega) room nd D used hI (by omega)
  have p4 := gz_rtail_h nl b hl (p + used) (by omega) nd D hD _ rfl _ rfl
  rw [← List.drop_drop, hdp] at p4
  rw [← hp]
  have p2 : HCon Tryz.prog n_gzip_reader_told [.op 1000 0 0, u8 (if nm = [] then 0 else 8)] [.row false (rdR nl b 10)] (.tup [str nm, int 0]) [(1000, 0, .row false (rdR nl b p))] 10 := by
    by_cases c : nm = []
    · subst c
      have hp10 : p = 10 := by rw [hp, hdB, leB4]; rfl
      rw [if_pos rfl, hp10]
      exact gz_told0_h nl b 10
    · have hp11 : p = 10 + (nm.length + 1) := by
        rw [hp, hdB, leB4, if_neg c, if_neg c]
        simp only [List.length_cons, List.length_append, List.length_nil]; omega
      have hd10 : b.drop 10 = nm ++ 0 :: R := by
        rw [hb, hdB, leB4, if_neg c, if_neg c]
        simp
      rw [if_neg c, hp11]
      exact gz_told8_h nl b hl 10 nm.length (by rw [hd10]; exact index_name hz) (by omega) hn nm (by rw [hd10]; exact List.take_left)
  obtain ⟨fl, hfl⟩ : ∃ fl : UInt8, fl = if nm = [] then 0 else 8 := ⟨_, rfl⟩
  rw [← hfl] at p1 p2
  repeat (first | refine wA ?_ | refine wB ?_ | refine wC rfl ?_ | refine wD rfl ?_ | refine wE ?_ | refine wF (by omega) ?_ | ((first | refine wG ?_ | refine wH ?_ | refine wI ?_ | refine wJ ?_ | refine wK ?_ | refine wL ?_); simp (disch := omega) only [wP, wZ, undef, seval, if_pos, if_neg, aStore, frz, AV.flat, ↓reduceIte, ne_eq, reduceCtorEq, ByteArray.size]))
  refine goC_h [(1000, 0)] 2000 p1 (by simp) (by simp) ?_ ?_ ?_
  iterate 2 (case _ => simp (disch := omega) only [wP, wZ, undef, seval, if_pos, if_neg, aStore, frz, AV.flat, ↓reduceIte, ne_eq, reduceCtorEq, ByteArray.size, rdR])
  repeat (first | refine wA ?_ | refine wB ?_ | refine wC rfl ?_ | refine wD rfl ?_ | refine wE ?_ | refine wF (by omega) ?_ | ((first | refine wG ?_ | refine wH ?_ | refine wI ?_ | refine wJ ?_ | refine wK ?_ | refine wL ?_); simp (disch := omega) only [wP, wZ, undef, seval, if_pos, if_neg, aStore, frz, AV.flat, ↓reduceIte, ne_eq, reduceCtorEq, ByteArray.size, rdR]))
  refine goC_h [(1000, 0)] 3000 p2 (by simp) (by simp) ?_ ?_ ?_
  iterate 2 (case _ => simp (disch := omega) only [wP, wZ, undef, seval, if_pos, if_neg, aStore, frz, AV.flat, ↓reduceIte, ne_eq, reduceCtorEq, ByteArray.size, rdR])
  repeat (first | refine wA ?_ | refine wB ?_ | refine wC rfl ?_ | refine wD rfl ?_ | refine wE ?_ | refine wF (by omega) ?_ | ((first | refine wG ?_ | refine wH ?_ | refine wI ?_ | refine wJ ?_ | refine wK ?_ | refine wL ?_); simp (disch := omega) only [wP, wZ, undef, seval, if_pos, if_neg, aStore, frz, AV.flat, ↓reduceIte, ne_eq, reduceCtorEq, ByteArray.size, rdR]))
  refine goC_h [(1000, 0)] 4000 p3 (by simp) (by simp) ?_ ?_ ?_
  iterate 2 (case _ => simp (disch := omega) only [wP, wZ, undef, seval, if_pos, if_neg, aStore, frz, AV.flat, ↓reduceIte, ne_eq, reduceCtorEq, ByteArray.size, rdR])
  repeat (first | refine wA ?_ | refine wB ?_ | refine wC rfl ?_ | refine wD rfl ?_ | refine wE ?_ | refine wF (by omega) ?_ | ((first | refine wG ?_ | refine wH ?_ | refine wI ?_ | refine wJ ?_ | refine wK ?_ | refine wL ?_); simp (disch := omega) only [wP, wZ, undef, seval, if_pos, if_neg, aStore, frz, AV.flat, ↓reduceIte, ne_eq, reduceCtorEq, ByteArray.size, rdR]))
  refine goC_h [(1000, 0)] 5000 p4 (by simp) (by simp) ?_ ?_ ?_
  iterate 2 (case _ => simp (disch := omega) only [wP, wZ, undef, seval, if_pos, if_neg, aStore, frz, AV.flat, ↓reduceIte, ne_eq, reduceCtorEq, ByteArray.size, rdR])
  by_cases c : (R.drop used).take 8 = tlB D
  · rw [decide_eq_true c] at hok
    subst hok
    rw [if_pos c]
    repeat (first | refine wA ?_ | refine wB ?_ | refine wC rfl ?_ | refine wD rfl ?_ | refine wE ?_ | refine wF (by omega) ?_ | ((first | refine wG ?_ | refine wH ?_ | refine wI ?_ | refine wJ ?_ | refine wK ?_ | refine wL ?_); simp (disch := omega) only [wP, wZ, undef, seval, if_pos, if_neg, aStore, frz, AV.flat, ↓reduceIte, ne_eq, reduceCtorEq, ByteArray.size, rdR, gotM]))
  · rw [decide_eq_false c] at hok
    subst hok
    rw [if_neg c]
    repeat (first | refine wA ?_ | refine wB ?_ | refine wC rfl ?_ | refine wD rfl ?_ | refine wE ?_ | refine wF (by omega) ?_ | ((first | refine wG ?_ | refine wH ?_ | refine wI ?_ | refine wJ ?_ | refine wK ?_ | refine wL ?_); simp (disch := omega) only [wP, wZ, undef, seval, if_pos, if_neg, aStore, frz, AV.flat, ↓reduceIte, ne_eq, reduceCtorEq, ByteArray.size, rdR, gotM]))
end Go.Proofs.YtbcncdpaigljeaaGreatDoor.Aw
namespace Go.Proofs.YtbcncdpaigljeaaGreatDoor.Aw
open Go
set_option linter.unusedSimpArgs false
set_option linter.unusedVariables false
set_option maxHeartbeats 1000000 in
set_option maxRecDepth 100000 in
theorem gz_Unpack_bad [Tabs Tryz.prog] (nm : List UInt8) (hn : nm.length ≤ 200) (hz : Lib.indexByte nm 0 < 0) (mt : Nat) (hm : mt < 4294967296) (R b : List UInt8) (hb : b = hdB nm mt ++ R) (hl : b.length ≤ 1000000) (h4 : R.length ≤ 4096) (room : Nat) (hr : room ≤ 16777216) (nd : Bool) (D : List UInt8) (hD : D.length ≤ 1000000) (used : Nat)
    (hI : Con Tryz.prog n_inflate_Inflate [.sl false none (R.map u8), int (room : Int)] (.tup [.sl nd none (D.map u8), int (used : Int), int 0])) (hu : used + 8 ≤ R.length) (hok : (R.drop used).take 8 ≠ tlB D) :
    Con Tryz.prog n_gzip_Unpack [.sl false none (b.map u8), int (room : Int)] (.tup [.sc (.slice none 0 0), .agg [str [], int 0, int 5]]) := by
  refine Con.of' mix Tryz.func16 rfl Tryz.ntmps16 e_gzip_Unpack r_gzip_Unpack (by simp) (by simp only [AV.free, AV.free.freeL, free_u8, int, Bool.and_self]) rfl ?_
  unfold s_gzip_Unpack
  have p1 := gz_member_h false nm hn hz mt hm R b hb hl h4 room nd D hD used hI hu false (decide_eq_false hok).symm
  obtain ⟨q, hq⟩ : ∃ q, q = (hdB nm mt).length + used + 8 := ⟨_, rfl⟩
  rw [← hq] at p1
  have d1 : decide ((room : Int) < 0) = false := decide_eq_false (by omega)
  have d2 : decide ((16777216 : Int) < (room : Int)) = false := decide_eq_false (by omega)
  have htl : b.take b.length = b := List.take_length
  clear hb hq
  repeat (first | refine wA ?_ | refine wB ?_ | refine wC rfl ?_ | refine wD rfl ?_ | refine wE ?_ | refine wF (by omega) ?_ | ((first | refine wG ?_ | refine wH ?_ | refine wI ?_ | refine wJ ?_ | refine wK ?_ | refine wL ?_); simp (disch := omega) only [wP, wZ, undef, seval, if_pos, if_neg, aStore, frz, AV.flat, ↓reduceIte, ne_eq, reduceCtorEq, ByteArray.size, d1, d2]))
  refine SWp.unroll ?_
  repeat (first | refine wA ?_ | refine wB ?_ | refine wC rfl ?_ | refine wD rfl ?_ | refine wE ?_ | refine wF (by omega) ?_ | ((first | refine wG ?_ | refine wH ?_ | refine wI ?_ | refine wJ ?_ | refine wK ?_ | refine wL ?_); simp (disch := omega) only [wP, wZ, undef, seval, if_pos, if_neg, aStore, frz, AV.flat, ↓reduceIte, ne_eq, reduceCtorEq, ByteArray.size, List.length_map, htl, List.drop_zero]))
  refine goC_h [(30, 1)] 2000 p1 (by simp) (by simp) ?_ ?_ ?_
  iterate 2 (case _ => simp (disch := omega) only [wP, wZ, undef, seval, if_pos, if_neg, aStore, frz, AV.flat, ↓reduceIte, ne_eq, reduceCtorEq, ByteArray.size, rdR])
  repeat (first | refine wA ?_ | refine wB ?_ | refine wC rfl ?_ | refine wD rfl ?_ | refine wE ?_ | refine wF (by omega) ?_ | ((first | refine wG ?_ | refine wH ?_ | refine wI ?_ | refine wJ ?_ | refine wK ?_ | refine wL ?_); simp (disch := omega) only [wP, wZ, undef, seval, if_pos, if_neg, aStore, frz, AV.flat, ↓reduceIte, ne_eq, reduceCtorEq, ByteArray.size, rdR, gotM]))
set_option maxHeartbeats 1000000 in
set_option maxRecDepth 100000 in
theorem gz_Unpack_one [Tabs Tryz.prog] (nm : List UInt8) (hn : nm.length ≤ 200) (hz : Lib.indexByte nm 0 < 0) (mt : Nat) (hm : mt < 4294967296) (R b : List UInt8) (hb : b = hdB nm mt ++ R) (hl : b.length ≤ 1000000) (h4 : R.length ≤ 4096) (room : Nat) (hr : room ≤ 16777216) (nd : Bool) (D : List UInt8) (hD : D.length ≤ 1000000) (used : Nat)
    (hI : Con Tryz.prog n_inflate_Inflate [.sl false none (R.map u8), int (room : Int)] (.tup [.sl nd none (D.map u8), int (used : Int), int 0])) (hu : used + 8 = R.length) (hok : (R.drop used).take 8 = tlB D) :
    Con Tryz.prog n_gzip_Unpack [.sl false none (b.map u8), int (room : Int)] (.tup [.sl false (some 3) [.agg [str nm, int (mt : Int), .sl nd none (D.map u8)]], .agg [str [], int 0, int 0]]) := by
  refine Con.of' mix Tryz.func16 rfl Tryz.ntmps16 e_gzip_Unpack r_gzip_Unpack (by simp) (by simp only [AV.free, AV.free.freeL, free_u8, int, Bool.and_self]) (by simp only [AV.free, AV.free.freeL, free_u8, int, str, Bool.and_self]) ?_
  unfold s_gzip_Unpack
  have p1 := gz_member_h false nm hn hz mt hm R b hb hl h4 room nd D hD used hI (by omega) true (decide_eq_true hok).symm
  have hq : (hdB nm mt).length + used + 8 = b.length := by rw [hb, List.length_append]; omega
  rw [hq] at p1
  have hbl : 10 ≤ b.length := by have := hdB_len (nm := nm) (mt := mt); omega
  have d1 : decide ((room : Int) < 0) = false := decide_eq_false (by omega)
  have d2 : decide ((16777216 : Int) < (room : Int)) = false := decide_eq_false (by omega)
  have d3 : decide ((b.length : Int) = 0) = false := decide_eq_false (by omega)
  have d4 : decide ((b.length : Int) < (b.length : Int)) = false := decide_eq_false (by omega)
  have htl : b.take b.length = b := List.take_length
  clear hb
  repeat (first | refine wA ?_ | refine wB ?_ | refine wC rfl ?_ | refine wD rfl ?_ | refine wE ?_ | refine wF (by omega) ?_ | ((first | refine wG ?_ | refine wH ?_ | refine wI ?_ | refine wJ ?_ | refine wK ?_ | refine wL ?_); simp (disch := omega) only [wP, wZ, undef, seval, if_pos, if_neg, aStore, frz, AV.flat, ↓reduceIte, ne_eq, reduceCtorEq, ByteArray.size, d1, d2]))
  refine SWp.unroll ?_
  repeat (first | refine wA ?_ | refine wB ?_ | refine wC rfl ?_ | refine wD rfl ?_ | refine wE ?_ | refine wF (by omega) ?_ | ((first | refine wG ?_ | refine wH ?_ | refine wI ?_ | refine wJ ?_ | refine wK ?_ | refine wL ?_); simp (disch := omega) only [wP, wZ, undef, seval, if_pos, if_neg, aStore, frz, AV.flat, ↓reduceIte, ne_eq, reduceCtorEq, ByteArray.size, List.length_map, htl, List.drop_zero]))
  refine goC_h [(30, 1)] 2000 p1 (by simp) (by simp) ?_ ?_ ?_
  iterate 2 (case _ => simp (disch := omega) only [wP, wZ, undef, seval, if_pos, if_neg, aStore, frz, AV.flat, ↓reduceIte, ne_eq, reduceCtorEq, ByteArray.size, rdR])
  repeat (first | refine wA ?_ | refine wB ?_ | refine wC rfl ?_ | refine wD rfl ?_ | refine wE ?_ | refine wF (by omega) ?_ | ((first | refine wG ?_ | refine wH ?_ | refine wI ?_ | refine wJ ?_ | refine wK ?_ | refine wL ?_); simp (disch := omega) only [wP, wZ, undef, seval, if_pos, if_neg, aStore, frz, AV.flat, ↓reduceIte, ne_eq, reduceCtorEq, ByteArray.size, rdR, gotM, d3, d4, List.length_map]))
  refine ⟨⟨_, rfl, rfl⟩, fun y hy => ⟨_, List.mem_singleton.1 hy⟩, ?_⟩
  repeat (first | refine wA ?_ | refine wB ?_ | refine wC rfl ?_ | refine wD rfl ?_ | refine wE ?_ | refine wF (by omega) ?_ | ((first | refine wG ?_ | refine wH ?_ | refine wI ?_ | refine wJ ?_ | refine wK ?_ | refine wL ?_); simp (disch := omega) only [wP, wZ, undef, seval, if_pos, if_neg, aStore, frz, AV.flat, ↓reduceIte, ne_eq, reduceCtorEq, ByteArray.size, rdR, gotM, d3, d4, List.length_map]))
  rfl
end Go.Proofs.YtbcncdpaigljeaaGreatDoor.Aw
namespace Go.Proofs.YtbcncdpaigljeaaGreatDoor.Aw
open Go
set_option linter.unusedSimpArgs false
set_option linter.unusedVariables false
def byteAt (L : List Nat) (k : Nat) : UInt8 := UInt8.ofNat (numB ((L.drop (8 * k)).take 8))
def bytesB (L : List Nat) : List UInt8 := (List.range ((L.length + 7) / 8)).map (byteAt L)
theorem length_bytesB {L : List Nat} : (bytesB L).length = (L.length + 7) / 8 := by simp [bytesB]
theorem byteAt_append {L M : List Nat} {k : Nat} (h : 8 * k + 8 ≤ L.length) : byteAt (L ++ M) k = byteAt L k := by
  unfold byteAt
  rw [List.drop_append_of_le_length (by omega), List.take_append_of_le_length (by rw [List.length_drop]; omega)]
theorem bytesB_snoc0 {L : List Nat} {x : Nat} (h : L.length % 8 = 0) : bytesB (L ++ [x]) = bytesB L ++ [UInt8.ofNat x] := by
  unfold bytesB
  rw [List.length_append, List.length_singleton, show (L.length + 1 + 7) / 8 = (L.length + 7) / 8 + 1 by omega, List.range_succ, List.map_append]
  congr 1
  · refine List.map_congr_left fun k hk => ?_
    have := List.mem_range.1 hk
    exact byteAt_append (by omega)
  · have e : 8 * ((L.length + 7) / 8) = L.length := by omega
    simp only [List.map_cons, List.map_nil, byteAt, e, List.drop_left]
    simp [numB]
theorem bytesB_last {L : List Nat} (h : L.length % 8 ≠ 0) : (bytesB L).getD (L.length / 8) 0 = UInt8.ofNat (numB (L.drop (8 * (L.length / 8)))) := by
  have hk : L.length / 8 < (L.length + 7) / 8 := by omega
  have : (L.drop (8 * (L.length / 8))).take 8 = L.drop (8 * (L.length / 8)) := List.take_of_length_le (by rw [List.length_drop]; omega)
  simp only [List.getD, bytesB, List.getElem?_map, List.getElem?_range hk, Option.map_some, Option.getD_some, byteAt, this]
theorem bytesB_snoc1 {L : List Nat} {x : Nat} (h : L.length % 8 ≠ 0) : bytesB (L ++ [x]) = (bytesB L).set (L.length / 8) (UInt8.ofNat (numB (L.drop (8 * (L.length / 8))) + 2 ^ (L.length % 8) * x)) := by
  apply List.ext_getElem?
  intro k
  have hl : (L ++ [x]).length = L.length + 1 := by simp
  have e : (L.length + 1 + 7) / 8 = (L.length + 7) / 8 := by omega
  rw [List.getElem?_set, length_bytesB]
  by_cases hk : k < (L.length + 7) / 8
  · have h1 : (bytesB (L ++ [x]))[k]? = some (byteAt (L ++ [x]) k) := by simp [bytesB, e, hk]
    have h2 : (bytesB L)[k]? = some (byteAt L k) := by simp [bytesB, hk]
    rw [h1, h2]
    split
    · rename_i e'
      subst e'
      rw [if_pos hk]
      congr 1
      unfold byteAt
      rw [List.drop_append_of_le_length (by omega), List.take_of_length_le (by rw [List.length_append, List.length_drop, List.length_singleton]; omega), numB_append, List.length_drop]
      have : L.length - 8 * (L.length / 8) = L.length % 8 := by omega
      rw [this]; simp [numB]
    · rw [byteAt_append (by omega)]
  · have h1 : (bytesB (L ++ [x]))[k]? = none := List.getElem?_eq_none (by rw [length_bytesB, hl]; omega)
    have h2 : (bytesB L)[k]? = none := List.getElem?_eq_none (by rw [length_bytesB]; omega)
    rw [h1, h2]
    split
    · rename_i e'
      rw [e', if_neg hk]
    · rfl
def digB (v n : Nat) : List Nat := (List.range n).map fun k => v / 2 ^ k % 2
theorem digB_lt {v n : Nat} : ∀ x ∈ digB v n, x < 2 := by
  intro x hx; obtain ⟨k, _, rfl⟩ := List.mem_map.1 hx; exact Nat.mod_lt _ (by omega)
theorem length_digB {v n : Nat} : (digB v n).length = n := by simp [digB]
theorem digB_snoc {v n k : Nat} (h : k < n) : (digB v n).take (k + 1) = (digB v n).take k ++ [v / 2 ^ k % 2] := by
  rw [snocD (d := 0) (by rw [length_digB]; exact h)]; simp [digB, List.getD, h]
end Go.Proofs.YtbcncdpaigljeaaGreatDoor.Aw
namespace Go.Proofs.YtbcncdpaigljeaaGreatDoor.Aw
open Go
set_option linter.unusedSimpArgs false
set_option linter.unusedVariables false
def wt (n : Nat) : Nat := if n = 0 then 0 else 32768 / 2 ^ n
def kraft : List Nat → Nat
  | [] => 0
  | n :: r => wt n + kraft r
theorem kraft_append {a b : List Nat} : kraft (a ++ b) = kraft a + kraft b := by
  induction a with
  | nil => simp [kraft]
  | cons x a ih => simp only [List.cons_append, kraft, ih]; omega
theorem wt_le {n : Nat} : wt n ≤ 32768 := by
  unfold wt; split
  · omega
  · exact Nat.div_le_self _ _
theorem kraft_le {l : List Nat} : kraft l ≤ 32768 * l.length := by
  induction l with
  | nil => simp [kraft]
  | cons x l ih => simp only [kraft, List.length_cons]; have := wt_le (n := x); omega
theorem kraft_snoc {l : List Nat} {k : Nat} (h : k < l.length) : kraft (l.take (k + 1)) = kraft (l.take k) + wt (l.getD k 0) := by
  rw [snocD (d := 0) h, kraft_append]; simp [kraft]
theorem kraft_take_le {l : List Nat} {k : Nat} : kraft (l.take k) ≤ 32768 * l.length := by
  refine Nat.le_trans kraft_le (Nat.mul_le_mul_left _ ?_)
  rw [List.length_take]; omega
set_option maxRecDepth 100000 in
theorem huff_taken_c [Tabs Tryz.prog] (nl : Bool) (l : List Nat) (hl : l.length ≤ 1000) (h15 : ∀ x ∈ l, x ≤ 15) : Con Tryz.prog n_huff_taken [.sl nl none (l.map nA)] (int (kraft l : Nat)) := by
  refine Con.of' mix Tryz.func134 rfl Tryz.ntmps134 e_huff_taken r_huff_taken (by simp) (by simp only [AV.free, AV.free.freeL, free_nA, Bool.and_self]) rfl ?_
  unfold s_huff_taken
  repeat (first | refine wA ?_ | refine wB ?_ | refine wC rfl ?_ | refine wD rfl ?_ | refine wE ?_ | refine wF (by omega) ?_ | ((first | refine wG ?_ | refine wH ?_ | refine wI ?_ | refine wJ ?_ | refine wK ?_ | refine wL ?_); simp (disch := omega) only [wP, wZ, undef, seval, if_pos, if_neg, aStore, frz, AV.flat, ↓reduceIte, ne_eq, reduceCtorEq, ByteArray.size]))
  refine SWp.loop (α := Nat) (fun k => mk 20 0 [(3, int (kraft (l.take k) : Nat)), (6, .sl nl none (l.map nA)), (7, int l.length), (8, int k)] [])
    (fun k => k ≤ l.length) (fun k => l.length - k) 0 (Nat.zero_le _) (le_mk rfl ?_ ?_ ?_) ?_
  · exact Nat.le_refl _
  iterate 2 (case _ => simp (disch := omega) only [wP, wZ, undef, seval, if_pos, if_neg, aStore, frz, AV.flat, ↓reduceIte, ne_eq, reduceCtorEq, ByteArray.size, List.take_zero, kraft])
  rintro k hk -
  repeat (first | refine wA ?_ | refine wB ?_ | refine wC rfl ?_ | refine wD rfl ?_ | refine wE ?_ | refine wF (by omega) ?_ | ((first | refine wG ?_ | refine wH ?_ | refine wI ?_ | refine wJ ?_ | refine wK ?_ | refine wL ?_); simp (disch := omega) only [wP, wZ, undef, seval, if_pos, if_neg, aStore, frz, AV.flat, ↓reduceIte, ne_eq, reduceCtorEq, ByteArray.size]))
  refine SWp.cond rfl (fun h => ?_) (fun h => ?_)
  · simp only [decide_eq_true_eq] at h
    have hkl : k < l.length := by omega
    have hs := kraft_snoc hkl
    have hle := kraft_take_le (l := l) (k := k)
    have hx15 : l.getD k 0 ≤ 15 := by
      have : l.getD k 0 = l[k] := by simp [List.getD, List.getElem?_eq_getElem hkl]
      rw [this]; exact h15 _ (List.getElem_mem hkl)
    obtain ⟨x, hx⟩ : ∃ x, x = l.getD k 0 := ⟨_, rfl⟩
    rw [← hx] at hs hx15
    obtain ⟨y, hy⟩ : ∃ y, y = kraft (l.take k) := ⟨_, rfl⟩
    rw [← hy] at hs hle
    by_cases c0 : x = 0
    · subst c0
      have e : kraft (l.take (k + 1)) = y := by rw [hs]; simp [wt]
      repeat (first | refine wA ?_ | refine wB ?_ | refine wC rfl ?_ | refine wD rfl ?_ | refine wE ?_ | refine wF (by omega) ?_ | ((first | refine wG ?_ | refine wH ?_ | refine wI ?_ | refine wJ ?_ | refine wK ?_ | refine wL ?_); simp (disch := omega) only [wP, wZ, undef, seval, if_pos, if_neg, aStore, frz, AV.flat, ↓reduceIte, ne_eq, reduceCtorEq, ByteArray.size, iR, ← hx, ← hy]))
      refine At.of (k + 1) (by omega) (by omega) rfl rfl (Nat.le_refl _) ?_ ?_
      iterate 2 (case _ => simp (disch := omega) only [wP, wZ, undef, seval, if_pos, if_neg, aStore, frz, AV.flat, ↓reduceIte, ne_eq, reduceCtorEq, ByteArray.size, e])
    · have d0 : decide ((0 : Int) < (x : Int)) = true := decide_eq_true (by omega)
      have hw : wt x = 32768 / 2 ^ x := by simp [wt, c0]
      have hw2 := wt_le (n := x)
      obtain ⟨z, hz⟩ : ∃ z, z = 32768 / 2 ^ x := ⟨_, rfl⟩
      rw [← hz] at hw
      rw [hw] at hw2
      have e : kraft (l.take (k + 1)) = y + z := by rw [hs, hw]
      repeat (first | refine wA ?_ | refine wB ?_ | refine wC rfl ?_ | refine wD rfl ?_ | refine wE ?_ | refine wF (by omega) ?_ | ((first | refine wG ?_ | refine wH ?_ | refine wI ?_ | refine wJ ?_ | refine wK ?_ | refine wL ?_); simp (disch := omega) only [wP, wZ, undef, seval, if_pos, if_neg, aStore, frz, AV.flat, ↓reduceIte, ne_eq, reduceCtorEq, ByteArray.size, iR, ← hx, ← hy, d0, ← hz]))
      refine At.of (k + 1) (by omega) (by omega) rfl rfl (Nat.le_refl _) ?_ ?_
      iterate 2 (case _ => simp (disch := omega) only [wP, wZ, undef, seval, if_pos, if_neg, aStore, frz, AV.flat, ↓reduceIte, ne_eq, reduceCtorEq, ByteArray.size, e])
  · simp only [decide_eq_false_iff_not] at h
    obtain rfl : k = l.length := by omega
    repeat (first | refine wA ?_ | refine wB ?_ | refine wC rfl ?_ | refine wD rfl ?_ | refine wE ?_ | refine wF (by omega) ?_ | ((first | refine wG ?_ | refine wH ?_ | refine wI ?_ | refine wJ ?_ | refine wK ?_ | refine wL ?_); simp (disch := omega) only [wP, wZ, undef, seval, if_pos, if_neg, aStore, frz, AV.flat, ↓reduceIte, ne_eq, reduceCtorEq, ByteArray.size, List.take_length]))
def okLen (x : Int) : Bool := decide (0 ≤ x ∧ x ≤ 15)
def chk (l : List Int) : Nat := if 320 < l.length then 4 else if l.all okLen = false then 1 else if 32768 < kraft (l.map Int.toNat) then 3 else 0
theorem all_takeI {l : List Int} {p : Int → Bool} {k : Nat} (hk : k < l.length) (h : (l.take k).all p = true) : (l.take (k + 1)).all p = p (l.getD k 0) := by
  rw [snocD (d := 0) hk, List.all_append, h]; simp
theorem all_notI {l : List Int} {p : Int → Bool} {k : Nat} (hk : k < l.length) (h : p (l.getD k 0) = false) : l.all p = false := by
  rw [List.all_eq_false]
  refine ⟨l[k], List.getElem_mem hk, ?_⟩
  simp [List.getD, List.getElem?_eq_getElem hk] at h
  simp [h]
theorem okLens {l : List Int} (h : l.all okLen = true) : l.map int = (l.map Int.toNat).map nA ∧ ∀ x ∈ l.map Int.toNat, x ≤ 15 := by
  have h2 : ∀ x ∈ l, 0 ≤ x ∧ x ≤ 15 := fun x hx => of_decide_eq_true (List.all_eq_true.1 h x hx)
  constructor
  · rw [List.map_map]
    refine List.map_congr_left fun x hx => ?_
    have := h2 x hx
    show AV.sc (.int .i64 x) = AV.sc (.int .i64 ((x.toNat : Nat) : Int))
    rw [Int.toNat_of_nonneg this.1]
  · intro y hy
    obtain ⟨x, hx, rfl⟩ := List.mem_map.1 hy
    have := h2 x hx
    omega
set_option maxRecDepth 100000 in
theorem huff_Check_c [Tabs Tryz.prog] (nl : Bool) (l : List Int) (hl : l.length ≤ 1000) : Con Tryz.prog n_huff_Check [.sl nl none (l.map int)] (int (chk l : Nat)) := by
  refine Con.of' mix Tryz.func132 rfl Tryz.ntmps132 e_huff_Check r_huff_Check (by simp) (by simp only [AV.free, AV.free.freeL, free_zA, Bool.and_self]) rfl ?_
  unfold s_huff_Check
  by_cases c1 : 320 < l.length
  · have d1 : decide ((320 : Int) < (l.length : Int)) = true := decide_eq_true (by omega)
    have hc : chk l = 4 := if_pos c1
    repeat (first | refine wA ?_ | refine wB ?_ | refine wC rfl ?_ | refine wD rfl ?_ | refine wE ?_ | refine wF (by omega) ?_ | ((first | refine wG ?_ | refine wH ?_ | refine wI ?_ | refine wJ ?_ | refine wK ?_ | refine wL ?_); simp (disch := omega) only [wP, wZ, undef, seval, if_pos, if_neg, aStore, frz, AV.flat, ↓reduceIte, ne_eq, reduceCtorEq, ByteArray.size, d1, hc]))
  have d1 : decide ((320 : Int) < (l.length : Int)) = false := decide_eq_false (by omega)
  repeat (first | refine wA ?_ | refine wB ?_ | refine wC rfl ?_ | refine wD rfl ?_ | refine wE ?_ | refine wF (by omega) ?_ | ((first | refine wG ?_ | refine wH ?_ | refine wI ?_ | refine wJ ?_ | refine wK ?_ | refine wL ?_); simp (disch := omega) only [wP, wZ, undef, seval, if_pos, if_neg, aStore, frz, AV.flat, ↓reduceIte, ne_eq, reduceCtorEq, ByteArray.size, d1]))
  refine SWp.loop (α := Nat) (fun k => mk 24 0 [(0, .sl nl none (l.map int)), (8, .sl nl none (l.map int)), (9, int l.length), (10, int k)] [])
    (fun k => k ≤ l.length ∧ (l.take k).all okLen = true) (fun k => l.length - k) 0 ⟨Nat.zero_le _, by simp⟩ (le_mk rfl ?_ ?_ ?_) ?_
  · exact Nat.le_refl _
  iterate 2 (case _ => simp (disch := omega) only [wP, wZ, undef, seval, if_pos, if_neg, aStore, frz, AV.flat, ↓reduceIte, ne_eq, reduceCtorEq, ByteArray.size])
  rintro k ⟨hk, ha⟩ -
  repeat (first | refine wA ?_ | refine wB ?_ | refine wC rfl ?_ | refine wD rfl ?_ | refine wE ?_ | refine wF (by omega) ?_ | ((first | refine wG ?_ | refine wH ?_ | refine wI ?_ | refine wJ ?_ | refine wK ?_ | refine wL ?_); simp (disch := omega) only [wP, wZ, undef, seval, if_pos, if_neg, aStore, frz, AV.flat, ↓reduceIte, ne_eq, reduceCtorEq, ByteArray.size]))
  refine SWp.cond rfl (fun h => ?_) (fun h => ?_)
  · simp only [decide_eq_true_eq] at h
    have hkl : k < l.length := by omega
    have hs := all_takeI hkl ha
    have hbad := all_notI (p := okLen) hkl
    obtain ⟨x, hx⟩ : ∃ x, x = l.getD k 0 := ⟨_, rfl⟩
    rw [← hx] at hs hbad
    by_cases c2 : x < 0
    · have d2 := decide_eq_true c2
      have hc : chk l = 1 := by unfold chk; rw [if_neg c1, if_pos (hbad (decide_eq_false (by omega)))]
      repeat (first | refine wA ?_ | refine wB ?_ | refine wC rfl ?_ | refine wD rfl ?_ | refine wE ?_ | refine wF (by omega) ?_ | ((first | refine wG ?_ | refine wH ?_ | refine wI ?_ | refine wJ ?_ | refine wK ?_ | refine wL ?_); simp (disch := omega) only [wP, wZ, undef, seval, if_pos, if_neg, aStore, frz, AV.flat, ↓reduceIte, ne_eq, reduceCtorEq, ByteArray.size, iR, ← hx, d2, hc]))
    have d2 := decide_eq_false c2
    by_cases c3 : 15 < x
    · have d3 := decide_eq_true c3
      have hc : chk l = 1 := by unfold chk; rw [if_neg c1, if_pos (hbad (decide_eq_false (by omega)))]
      repeat (first | refine wA ?_ | refine wB ?_ | refine wC rfl ?_ | refine wD rfl ?_ | refine wE ?_ | refine wF (by omega) ?_ | ((first | refine wG ?_ | refine wH ?_ | refine wI ?_ | refine wJ ?_ | refine wK ?_ | refine wL ?_); simp (disch := omega) only [wP, wZ, undef, seval, if_pos, if_neg, aStore, frz, AV.flat, ↓reduceIte, ne_eq, reduceCtorEq, ByteArray.size, iR, ← hx, d2, d3, hc]))
    have d3 := decide_eq_false c3
    repeat (first | refine wA ?_ | refine wB ?_ | refine wC rfl ?_ | refine wD rfl ?_ | refine wE ?_ | refine wF (by omega) ?_ | ((first | refine wG ?_ | refine wH ?_ | refine wI ?_ | refine wJ ?_ | refine wK ?_ | refine wL ?_); simp (disch := omega) only [wP, wZ, undef, seval, if_pos, if_neg, aStore, frz, AV.flat, ↓reduceIte, ne_eq, reduceCtorEq, ByteArray.size, iR, ← hx, d2, d3]))
    refine At.of (k + 1) ⟨by omega, by rw [hs]; exact decide_eq_true (by omega)⟩ (by omega) rfl rfl (Nat.le_refl _) ?_ ?_
    iterate 2 (case _ => simp (disch := omega) only [wP, wZ, undef, seval, if_pos, if_neg, aStore, frz, AV.flat, ↓reduceIte, ne_eq, reduceCtorEq, ByteArray.size])
  · simp only [decide_eq_false_iff_not] at h
    obtain rfl : k = l.length := by omega
    rw [List.take_length] at ha
    obtain ⟨hm, h15⟩ := okLens ha
    have ht := huff_taken_c nl (l.map Int.toNat) (by rw [List.length_map]; exact hl) h15
    rw [← hm] at ht
    repeat (first | refine wA ?_ | refine wB ?_ | refine wC rfl ?_ | refine wD rfl ?_ | refine wE ?_ | refine wF (by omega) ?_ | ((first | refine wG ?_ | refine wH ?_ | refine wI ?_ | refine wJ ?_ | refine wK ?_ | refine wL ?_); simp (disch := omega) only [wP, wZ, undef, seval, if_pos, if_neg, aStore, frz, AV.flat, ↓reduceIte, ne_eq, reduceCtorEq, ByteArray.size]))
    refine goC_p _ (.inl ⟨by simp only [AV.free, AV.free.freeL, free_zA, Bool.and_self], ht⟩) ?_
    by_cases c4 : 32768 < kraft (l.map Int.toNat)
    · have d4 : decide ((32768 : Int) < (kraft (l.map Int.toNat) : Nat)) = true := decide_eq_true (by omega)
      have hc : chk l = 3 := by unfold chk; rw [if_neg c1, if_neg (by rw [ha]; simp), if_pos c4]
      repeat (first | refine wA ?_ | refine wB ?_ | refine wC rfl ?_ | refine wD rfl ?_ | refine wE ?_ | refine wF (by omega) ?_ | ((first | refine wG ?_ | refine wH ?_ | refine wI ?_ | refine wJ ?_ | refine wK ?_ | refine wL ?_); simp (disch := omega) only [wP, wZ, undef, seval, if_pos, if_neg, aStore, frz, AV.flat, ↓reduceIte, ne_eq, reduceCtorEq, ByteArray.size, d4, hc]))
    · have d4 : decide ((32768 : Int) < (kraft (l.map Int.toNat) : Nat)) = false := decide_eq_false (by omega)
      have hc : chk l = 0 := by unfold chk; rw [if_neg c1, if_neg (by rw [ha]; simp), if_neg c4]
      repeat (first | refine wA ?_ | refine wB ?_ | refine wC rfl ?_ | refine wD rfl ?_ | refine wE ?_ | refine wF (by omega) ?_ | ((first | refine wG ?_ | refine wH ?_ | refine wI ?_ | refine wJ ?_ | refine wK ?_ | refine wL ?_); simp (disch := omega) only [wP, wZ, undef, seval, if_pos, if_neg, aStore, frz, AV.flat, ↓reduceIte, ne_eq, reduceCtorEq, ByteArray.size, d4, hc]))
theorem chk_ok {l : List Int} (h : chk l = 0) : l.length ≤ 320 ∧ l.all okLen = true ∧ kraft (l.map Int.toNat) ≤ 32768 := by
  unfold chk at h
  split at h
  · omega
  · split at h
    · omega
    · rename_i h1 h2
      split at h
      · omega
      · exact ⟨by omega, by simpa using h2, by omega⟩
def fullB (l : List Int) : Bool := decide (chk l = 0) && decide (kraft (l.map Int.toNat) = 32768)
theorem huff_Full_c [Tabs Tryz.prog] (nl : Bool) (l : List Int) (hl : l.length ≤ 1000) : Con Tryz.prog n_huff_Full [.sl nl none (l.map int)] (boo (fullB l)) := by
  refine Con.of' mix Tryz.func138 rfl Tryz.ntmps138 e_huff_Full r_huff_Full (by simp) (by simp only [AV.free, AV.free.freeL, free_zA, Bool.and_self]) rfl ?_
  unfold s_huff_Full
  have hf : AV.free.freeL [.sl nl none (l.map int)] = true := by simp only [AV.free, AV.free.freeL, free_zA, Bool.and_self]
  repeat (first | refine wA ?_ | refine wB ?_ | refine wC rfl ?_ | refine wD rfl ?_ | refine wE ?_ | refine wF (by omega) ?_ | ((first | refine wG ?_ | refine wH ?_ | refine wI ?_ | refine wJ ?_ | refine wK ?_ | refine wL ?_); simp (disch := omega) only [wP, wZ, undef, seval, if_pos, if_neg, aStore, frz, AV.flat, ↓reduceIte, ne_eq, reduceCtorEq, ByteArray.size]))
  refine goC_p _ (.inl ⟨hf, huff_Check_c nl l hl⟩) ?_
  by_cases c : chk l = 0
  · have d : decide (((chk l : Nat) : Int) = 0) = true := decide_eq_true (by omega)
    obtain ⟨h1, h2, h3⟩ := chk_ok c
    obtain ⟨hm, h15⟩ := okLens h2
    have ht := huff_taken_c nl (l.map Int.toNat) (by rw [List.length_map]; exact hl) h15
    rw [← hm] at ht
    have hb : fullB l = decide (kraft (l.map Int.toNat) = 32768) := by simp [fullB, c]
    have hd : decide (((kraft (l.map Int.toNat) : Nat) : Int) = 32768) = decide (kraft (l.map Int.toNat) = 32768) := decide_eq_decide.2 (by omega)
    repeat (first | refine wA ?_ | refine wB ?_ | refine wC rfl ?_ | refine wD rfl ?_ | refine wE ?_ | refine wF (by omega) ?_ | ((first | refine wG ?_ | refine wH ?_ | refine wI ?_ | refine wJ ?_ | refine wK ?_ | refine wL ?_); simp (disch := omega) only [wP, wZ, undef, seval, if_pos, if_neg, aStore, frz, AV.flat, ↓reduceIte, ne_eq, reduceCtorEq, ByteArray.size, d]))
    refine goC_p _ (.inl ⟨hf, ht⟩) ?_
    repeat (first | refine wA ?_ | refine wB ?_ | refine wC rfl ?_ | refine wD rfl ?_ | refine wE ?_ | refine wF (by omega) ?_ | ((first | refine wG ?_ | refine wH ?_ | refine wI ?_ | refine wJ ?_ | refine wK ?_ | refine wL ?_); simp (disch := omega) only [wP, wZ, undef, seval, if_pos, if_neg, aStore, frz, AV.flat, ↓reduceIte, ne_eq, reduceCtorEq, ByteArray.size, hb, hd]))
  · have d : decide (((chk l : Nat) : Int) = 0) = false := decide_eq_false (by omega)
    have hb : fullB l = false := by simp [fullB, c]
    repeat (first | refine wA ?_ | refine wB ?_ | refine wC rfl ?_ | refine wD rfl ?_ | refine wE ?_ | refine wF (by omega) ?_ | ((first | refine wG ?_ | refine wH ?_ | refine wI ?_ | refine wJ ?_ | refine wK ?_ | refine wL ?_); simp (disch := omega) only [wP, wZ, undef, seval, if_pos, if_neg, aStore, frz, AV.flat, ↓reduceIte, ne_eq, reduceCtorEq, ByteArray.size, d, hb]))
end Go.Proofs.YtbcncdpaigljeaaGreatDoor.Aw
namespace Go.Proofs.YtbcncdpaigljeaaGreatDoor.Aw
open Go
set_option linter.unusedSimpArgs false
set_option linter.unusedVariables false
def r16 (f : Nat → Nat) : List Nat := (List.range 16).map f
theorem length_r16 {f : Nat → Nat} : (r16 f).length = 16 := by simp [r16]
theorem r16_get {f : Nat → Nat} {k : Nat} (h : k < 16) : (r16 f).getD k 0 = f k := by simp [r16, List.getD, h]
theorem r16_set {f g : Nat → Nat} {k x : Nat} (h : ∀ i, i < 16 → g i = if i = k then x else f i) : (r16 f).set k x = r16 g := by
  apply List.ext_getElem?
  intro i
  rw [List.getElem?_set, length_r16]
  by_cases hi : i < 16
  · have h1 : (r16 f)[i]? = some (f i) := by simp [r16, hi]
    have h2 : (r16 g)[i]? = some (g i) := by simp [r16, hi]
    rw [h1, h2, h i hi]
    by_cases e : k = i
    · subst e; simp [hi]
    · rw [if_neg e, if_neg (fun h => e h.symm)]
  · have h1 : (r16 f)[i]? = none := List.getElem?_eq_none (by rw [length_r16]; omega)
    have h2 : (r16 g)[i]? = none := List.getElem?_eq_none (by rw [length_r16]; omega)
    rw [h1, h2]
    split
    · rename_i e; subst e; rw [if_neg hi]
    · rfl
theorem r16_congr {f g : Nat → Nat} (h : ∀ i, i < 16 → f i = g i) : r16 f = r16 g := List.map_congr_left fun i hi => h i (List.mem_range.1 hi)
theorem count_snoc {l : List Nat} {k n : Nat} (h : k < l.length) : (l.take (k + 1)).count n = (l.take k).count n + (if n = l.getD k 0 then 1 else 0) := by
  rw [snocD (d := 0) h, List.count_append]
  congr 1
  by_cases e : n = l.getD k 0
  · rw [if_pos e, ← e]; simp
  · rw [if_neg e, List.count_singleton]; simp; exact fun h => e h.symm
theorem count_take_le {l : List Nat} {k n : Nat} : (l.take k).count n ≤ l.length := Nat.le_trans List.count_le_length (by rw [List.length_take]; omega)
def cn (l : List Nat) (n : Nat) : Nat := if n = 0 then 0 else l.count n
def fr (l : List Nat) : Nat → Nat
  | 0 => 0
  | n + 1 => 2 * (fr l n + cn l n)
theorem cn_le {l : List Nat} {n : Nat} : cn l n ≤ l.length := by
  unfold cn; split
  · omega
  · exact List.count_le_length
theorem fr_le {l : List Nat} (hl : l.length ≤ 320) : ∀ {n : Nat}, fr l n + 640 ≤ 640 * 2 ^ n
  | 0 => by simp [fr]
  | n + 1 => by
    have h1 := fr_le hl (n := n)
    have h2 := cn_le (l := l) (n := n)
    simp only [fr, Nat.pow_succ]; omega
theorem fr_lt {l : List Nat} (hl : l.length ≤ 320) {n : Nat} (hn : n ≤ 15) : fr l n ≤ 20971520 := by
  have h1 := fr_le hl (n := n)
  have h2 : 2 ^ n ≤ 32768 := two_pow_le (n := n) (m := 15) hn
  omega
set_option maxRecDepth 100000 in
theorem huff_firstRows_c [Tabs Tryz.prog] (nl : Bool) (l : List Nat) (hl : l.length ≤ 320) (h15 : ∀ x ∈ l, x ≤ 15) : Con Tryz.prog n_huff_firstRows [.sl nl none (l.map nA)] (.agg ((r16 (fr l)).map nA)) := by
  refine Con.of' mix Tryz.func133 rfl Tryz.ntmps133 e_huff_firstRows r_huff_firstRows (by simp) (by simp only [AV.free, AV.free.freeL, free_nA, Bool.and_self]) (by simp only [AV.free, free_nA]) ?_
  unfold s_huff_firstRows
  obtain ⟨Z, hZ⟩ : ∃ Z, Z = r16 fun _ => 0 := ⟨_, rfl⟩
  have hZl : Z.length = 16 := by rw [hZ, length_r16]
  have hz : (List.replicate 16 (Value.int .i64 0)).map AV.sc = Z.map nA := by rw [hZ]; rfl
  have hZd : Z.drop 16 = [] := List.drop_of_length_le (by omega)
  repeat (first | refine wA ?_ | refine wB ?_ | refine wC rfl ?_ | refine wD rfl ?_ | refine wE ?_ | refine wF (by omega) ?_ | ((first | refine wG ?_ | refine wH ?_ | refine wI ?_ | refine wJ ?_ | refine wK ?_ | refine wL ?_); simp (disch := omega) only [wP, wZ, undef, UInt8.reduceToNat, Nat.reduceOr, Nat.reduceAnd, Nat.reduceXor, Nat.reduceDiv, if_pos, if_neg, aStore, frz, AV.flat, ↓reduceIte, ne_eq, reduceCtorEq, Int.reduceToNat, Nat.reduceEqDiff, Nat.reduceAdd, Nat.reduceSub, Nat.reduceMul, Int.reduceAdd, Int.reduceMul, Int.reduceSub, Int.reduceLT, Int.reduceLE, Int.reduceEq, Int.reduceNe, Nat.reduceLeDiff, Nat.reduceLT, Int.reduceNeg, Nat.reducePow, Nat.reduceMod, ByteArray.size, hz]))
  refine SWp.loop (α := Nat) (fun k => mk 37 2 [(2, .op 2 0 0), (3, .op 3 1 0), (8, .sl nl none (l.map nA)), (9, int l.length), (10, int k)] [(2, 0, .row false (Z.map nA)), (3, 1, .row false ((r16 fun n => (l.take k).count n).map nA))])
    (fun k => k ≤ l.length) (fun k => l.length - k) 0 (Nat.zero_le _) (le_mk rfl ?_ ?_ ?_) ?_
  · exact Nat.le_refl _
  iterate 2 (case _ => simp (disch := omega) only [wP, wZ, undef, UInt8.reduceToNat, Nat.reduceOr, Nat.reduceAnd, Nat.reduceXor, Nat.reduceDiv, if_pos, if_neg, aStore, frz, AV.flat, ↓reduceIte, ne_eq, reduceCtorEq, Int.reduceToNat, Nat.reduceEqDiff, Nat.reduceAdd, Nat.reduceSub, Nat.reduceMul, Int.reduceAdd, Int.reduceMul, Int.reduceSub, Int.reduceLT, Int.reduceLE, Int.reduceEq, Int.reduceNe, Nat.reduceLeDiff, Nat.reduceLT, Int.reduceNeg, Nat.reducePow, Nat.reduceMod, ByteArray.size, List.take_zero, List.count_nil, hZ])
  rintro k hk -
  repeat (first | refine wA ?_ | refine wB ?_ | refine wC rfl ?_ | refine wD rfl ?_ | refine wE ?_ | refine wF (by omega) ?_ | ((first | refine wG ?_ | refine wH ?_ | refine wI ?_ | refine wJ ?_ | refine wK ?_ | refine wL ?_); simp (disch := omega) only [wP, wZ, undef, UInt8.reduceToNat, Nat.reduceOr, Nat.reduceAnd, Nat.reduceXor, Nat.reduceDiv, if_pos, if_neg, aStore, frz, AV.flat, ↓reduceIte, ne_eq, reduceCtorEq, Int.reduceToNat, Nat.reduceEqDiff, Nat.reduceAdd, Nat.reduceSub, Nat.reduceMul, Int.reduceAdd, Int.reduceMul, Int.reduceSub, Int.reduceLT, Int.reduceLE, Int.reduceEq, Int.reduceNe, Nat.reduceLeDiff, Nat.reduceLT, Int.reduceNeg, Nat.reducePow, Nat.reduceMod, ByteArray.size]))
  refine SWp.cond rfl (fun h => ?_) (fun h => ?_)
  · simp only [decide_eq_true_eq] at h
    have hkl : k < l.length := by omega
    have hx15 : l.getD k 0 ≤ 15 := by
      have : l.getD k 0 = l[k] := by simp [List.getD, List.getElem?_eq_getElem hkl]
      rw [this]; exact h15 _ (List.getElem_mem hkl)
    have hcs : ∀ n, (l.take (k + 1)).count n = (l.take k).count n + (if n = l.getD k 0 then 1 else 0) := fun n => count_snoc hkl
    obtain ⟨x, hx⟩ : ∃ x, x = l.getD k 0 := ⟨_, rfl⟩
    rw [← hx] at hx15 hcs
    have hg := r16_get (f := fun n => (l.take k).count n) (k := x) (by omega)
    have hcl := count_take_le (l := l) (k := k) (n := x)
    have hset := r16_set (f := fun n => (l.take k).count n) (g := fun n => (l.take (k + 1)).count n) (k := x) (x := (l.take k).count x + 1) (fun i hi => by
      show (l.take (k + 1)).count i = _
      rw [hcs]
      by_cases e : i = x
      · subst e; simp
      · simp [e])
    obtain ⟨S, hS⟩ : ∃ S, S = r16 fun n => (l.take k).count n := ⟨_, rfl⟩
    have hSl : S.length = 16 := by rw [hS, length_r16]
    obtain ⟨y, hy⟩ : ∃ y, y = (l.take k).count x := ⟨_, rfl⟩
    rw [← hS] at hset hg ⊢
    simp only [← hy] at hg hset hcl
    have hsp := splice_nA (l := S) (k := x) (x := y + 1) (by omega)
    rw [hset] at hsp
    repeat (first | refine wA ?_ | refine wB ?_ | refine wC rfl ?_ | refine wD rfl ?_ | refine wE ?_ | refine wF (by omega) ?_ | ((first | refine wG ?_ | refine wH ?_ | refine wI ?_ | refine wJ ?_ | refine wK ?_ | refine wL ?_); simp (disch := omega) only [wP, wZ, undef, UInt8.reduceToNat, Nat.reduceOr, Nat.reduceAnd, Nat.reduceXor, Nat.reduceDiv, if_pos, if_neg, aStore, frz, AV.flat, ↓reduceIte, ne_eq, reduceCtorEq, Int.reduceToNat, Nat.reduceEqDiff, Nat.reduceAdd, Nat.reduceSub, Nat.reduceMul, Int.reduceAdd, Int.reduceMul, Int.reduceSub, Int.reduceLT, Int.reduceLE, Int.reduceEq, Int.reduceNe, Nat.reduceLeDiff, Nat.reduceLT, Int.reduceNeg, Nat.reducePow, Nat.reduceMod, ByteArray.size, iR, ← hx, hg]))
    refine At.of (k + 1) (by omega) (by omega) rfl rfl (Nat.le_refl _) ?_ ?_
    · simp (disch := omega) only [wP, wZ, undef, UInt8.reduceToNat, Nat.reduceOr, Nat.reduceAnd, Nat.reduceXor, Nat.reduceDiv, if_pos, if_neg, aStore, frz, AV.flat, ↓reduceIte, ne_eq, reduceCtorEq, Int.reduceToNat, Nat.reduceEqDiff, Nat.reduceAdd, Nat.reduceSub, Nat.reduceMul, Int.reduceAdd, Int.reduceMul, Int.reduceSub, Int.reduceLT, Int.reduceLE, Int.reduceEq, Int.reduceNe, Nat.reduceLeDiff, Nat.reduceLT, Int.reduceNeg, Nat.reducePow, Nat.reduceMod, ByteArray.size]
    · simp (disch := omega) only [wP, wZ, undef, UInt8.reduceToNat, Nat.reduceOr, Nat.reduceAnd, Nat.reduceXor, Nat.reduceDiv, if_pos, if_neg, aStore, frz, AV.flat, ↓reduceIte, ne_eq, reduceCtorEq, Int.reduceToNat, Nat.reduceEqDiff, Nat.reduceAdd, Nat.reduceSub, Nat.reduceMul, Int.reduceAdd, Int.reduceMul, Int.reduceSub, Int.reduceLT, Int.reduceLE, Int.reduceEq, Int.reduceNe, Nat.reduceLeDiff, Nat.reduceLT, Int.reduceNeg, Nat.reducePow, Nat.reduceMod, ByteArray.size]
      exact hsp
  · simp only [decide_eq_false_iff_not] at h
    obtain rfl : k = l.length := by omega
    rw [List.take_length]
    have hset := r16_set (f := fun n => l.count n) (g := cn l) (k := 0) (x := 0) (fun i hi => rfl)
    obtain ⟨S0, hS0⟩ : ∃ S, S = r16 fun n => l.count n := ⟨_, rfl⟩
    have hS0l : S0.length = 16 := by rw [hS0, length_r16]
    rw [← hS0] at hset ⊢
    obtain ⟨S, hS⟩ : ∃ S, S = r16 (cn l) := ⟨_, rfl⟩
    have hSl : S.length = 16 := by rw [hS, length_r16]
    rw [← hS] at hset
    have hsp := splice_nA (l := S0) (k := 0) (x := 0) (by omega)
    rw [hset] at hsp
    simp only [List.take_zero, List.map_nil, List.nil_append] at hsp
    have hsp' : AV.sc (.int .i64 0) :: (S0.drop 1).map nA = S.map nA := hsp
    repeat (first | refine wA ?_ | refine wB ?_ | refine wC rfl ?_ | refine wD rfl ?_ | refine wE ?_ | refine wF (by omega) ?_ | ((first | refine wG ?_ | refine wH ?_ | refine wI ?_ | refine wJ ?_ | refine wK ?_ | refine wL ?_); simp (disch := omega) only [wP, wZ, undef, UInt8.reduceToNat, Nat.reduceOr, Nat.reduceAnd, Nat.reduceXor, Nat.reduceDiv, if_pos, if_neg, aStore, frz, AV.flat, ↓reduceIte, ne_eq, reduceCtorEq, Int.reduceToNat, Nat.reduceEqDiff, Nat.reduceAdd, Nat.reduceSub, Nat.reduceMul, Int.reduceAdd, Int.reduceMul, Int.reduceSub, Int.reduceLT, Int.reduceLE, Int.reduceEq, Int.reduceNe, Nat.reduceLeDiff, Nat.reduceLT, Int.reduceNeg, Nat.reducePow, Nat.reduceMod, ByteArray.size, iR, hz, hsp']))
    refine SWp.loop (α := Nat) (fun k => mk 37 3 [(2, .op 2 0 0), (3, .op 3 1 0), (6, .op 6 2 0), (21, int k)] [(2, 0, .row false (Z.map nA)), (3, 1, .row false (S.map nA)), (6, 2, .row false ((r16 fun n => if n ≤ k then fr l n else 0).map nA))])
      (fun k => k ≤ 15) (fun k => 15 - k) 0 (Nat.zero_le _) (le_mk rfl ?_ ?_ ?_) ?_
    · exact Nat.le_refl _
    · simp (disch := omega) only [wP, wZ, undef, UInt8.reduceToNat, Nat.reduceOr, Nat.reduceAnd, Nat.reduceXor, Nat.reduceDiv, if_pos, if_neg, aStore, frz, AV.flat, ↓reduceIte, ne_eq, reduceCtorEq, Int.reduceToNat, Nat.reduceEqDiff, Nat.reduceAdd, Nat.reduceSub, Nat.reduceMul, Int.reduceAdd, Int.reduceMul, Int.reduceSub, Int.reduceLT, Int.reduceLE, Int.reduceEq, Int.reduceNe, Nat.reduceLeDiff, Nat.reduceLT, Int.reduceNeg, Nat.reducePow, Nat.reduceMod, ByteArray.size]
    · simp (disch := omega) only [wP, wZ, undef, UInt8.reduceToNat, Nat.reduceOr, Nat.reduceAnd, Nat.reduceXor, Nat.reduceDiv, if_pos, if_neg, aStore, frz, AV.flat, ↓reduceIte, ne_eq, reduceCtorEq, Int.reduceToNat, Nat.reduceEqDiff, Nat.reduceAdd, Nat.reduceSub, Nat.reduceMul, Int.reduceAdd, Int.reduceMul, Int.reduceSub, Int.reduceLT, Int.reduceLE, Int.reduceEq, Int.reduceNe, Nat.reduceLeDiff, Nat.reduceLT, Int.reduceNeg, Nat.reducePow, Nat.reduceMod, ByteArray.size]
      rw [hZ]
      exact congrArg (List.map nA) (r16_congr fun i _ => by
        by_cases e : i ≤ 0
        · obtain rfl : i = 0 := by omega
          rfl
        · rw [if_neg e])
    rintro k hk -
    repeat (first | refine wA ?_ | refine wB ?_ | refine wC rfl ?_ | refine wD rfl ?_ | refine wE ?_ | refine wF (by omega) ?_ | ((first | refine wG ?_ | refine wH ?_ | refine wI ?_ | refine wJ ?_ | refine wK ?_ | refine wL ?_); simp (disch := omega) only [wP, wZ, undef, UInt8.reduceToNat, Nat.reduceOr, Nat.reduceAnd, Nat.reduceXor, Nat.reduceDiv, if_pos, if_neg, aStore, frz, AV.flat, ↓reduceIte, ne_eq, reduceCtorEq, Int.reduceToNat, Nat.reduceEqDiff, Nat.reduceAdd, Nat.reduceSub, Nat.reduceMul, Int.reduceAdd, Int.reduceMul, Int.reduceSub, Int.reduceLT, Int.reduceLE, Int.reduceEq, Int.reduceNe, Nat.reduceLeDiff, Nat.reduceLT, Int.reduceNeg, Nat.reducePow, Nat.reduceMod, ByteArray.size]))
    refine SWp.cond rfl (fun h => ?_) (fun h => ?_)
    · simp only [decide_eq_true_eq] at h
      have hk15 : k < 15 := by omega
      have hg := r16_get (f := fun n => if n ≤ k then fr l n else 0) (k := k) (by omega)
      rw [if_pos (Nat.le_refl _)] at hg
      have hgs : S.getD k 0 = cn l k := by rw [hS]; exact r16_get (by omega)
      have hfl := fr_lt hl (n := k) (by omega)
      have hcl := cn_le (l := l) (n := k)
      have hset := r16_set (f := fun n => if n ≤ k then fr l n else 0) (g := fun n => if n ≤ k + 1 then fr l n else 0) (k := k + 1) (x := (fr l k + cn l k) * 2) (fun i hi => by
        show (if i ≤ k + 1 then fr l i else 0) = if i = k + 1 then _ else if i ≤ k then fr l i else 0
        by_cases e : i = k + 1
        · subst e; rw [if_pos (Nat.le_refl _), if_pos rfl, fr, Nat.mul_comm]
        · rw [if_neg e]
          by_cases e2 : i ≤ k
          · rw [if_pos e2, if_pos (by omega)]
          · rw [if_neg e2, if_neg (by omega)])
      obtain ⟨G, hG⟩ : ∃ G, G = r16 fun n => if n ≤ k then fr l n else 0 := ⟨_, rfl⟩
      have hGl : G.length = 16 := by rw [hG, length_r16]
      obtain ⟨x, hx⟩ : ∃ x, x = fr l k := ⟨_, rfl⟩
      obtain ⟨y, hy⟩ : ∃ y, y = cn l k := ⟨_, rfl⟩
      rw [← hx] at hg hfl hset
      rw [← hy] at hgs hcl hset
      rw [← hG] at hset hg ⊢
      have hsp := splice_nA (l := G) (k := k + 1) (x := (x + y) * 2) (by omega)
      rw [hset] at hsp
      repeat (first | refine wA ?_ | refine wB ?_ | refine wC rfl ?_ | refine wD rfl ?_ | refine wE ?_ | refine wF (by omega) ?_ | ((first | refine wG ?_ | refine wH ?_ | refine wI ?_ | refine wJ ?_ | refine wK ?_ | refine wL ?_); simp (disch := omega) only [wP, wZ, undef, UInt8.reduceToNat, Nat.reduceOr, Nat.reduceAnd, Nat.reduceXor, Nat.reduceDiv, if_pos, if_neg, aStore, frz, AV.flat, ↓reduceIte, ne_eq, reduceCtorEq, Int.reduceToNat, Nat.reduceEqDiff, Nat.reduceAdd, Nat.reduceSub, Nat.reduceMul, Int.reduceAdd, Int.reduceMul, Int.reduceSub, Int.reduceLT, Int.reduceLE, Int.reduceEq, Int.reduceNe, Nat.reduceLeDiff, Nat.reduceLT, Int.reduceNeg, Nat.reducePow, Nat.reduceMod, ByteArray.size, iR, hg, hgs]))
      refine At.of (k + 1) (by omega) (by omega) rfl rfl (Nat.le_refl _) ?_ ?_
      · simp (disch := omega) only [wP, wZ, undef, UInt8.reduceToNat, Nat.reduceOr, Nat.reduceAnd, Nat.reduceXor, Nat.reduceDiv, if_pos, if_neg, aStore, frz, AV.flat, ↓reduceIte, ne_eq, reduceCtorEq, Int.reduceToNat, Nat.reduceEqDiff, Nat.reduceAdd, Nat.reduceSub, Nat.reduceMul, Int.reduceAdd, Int.reduceMul, Int.reduceSub, Int.reduceLT, Int.reduceLE, Int.reduceEq, Int.reduceNe, Nat.reduceLeDiff, Nat.reduceLT, Int.reduceNeg, Nat.reducePow, Nat.reduceMod, ByteArray.size]
      · simp (disch := omega) only [wP, wZ, undef, UInt8.reduceToNat, Nat.reduceOr, Nat.reduceAnd, Nat.reduceXor, Nat.reduceDiv, if_pos, if_neg, aStore, frz, AV.flat, ↓reduceIte, ne_eq, reduceCtorEq, Int.reduceToNat, Nat.reduceEqDiff, Nat.reduceAdd, Nat.reduceSub, Nat.reduceMul, Int.reduceAdd, Int.reduceMul, Int.reduceSub, Int.reduceLT, Int.reduceLE, Int.reduceEq, Int.reduceNe, Nat.reduceLeDiff, Nat.reduceLT, Int.reduceNeg, Nat.reducePow, Nat.reduceMod, ByteArray.size]
        exact hsp
    · simp only [decide_eq_false_iff_not] at h
      obtain rfl : k = 15 := by omega
      have hr : (r16 fun n => if n ≤ 15 then fr l n else 0) = r16 (fr l) := r16_congr fun i hi => if_pos (by omega)
      rw [hr]
      obtain ⟨F, hF⟩ : ∃ F, F = r16 (fr l) := ⟨_, rfl⟩
      have hFl : F.length = 16 := by rw [hF, length_r16]
      rw [← hF]
      repeat (first | refine wA ?_ | refine wB ?_ | refine wC rfl ?_ | refine wD rfl ?_ | refine wE ?_ | refine wF (by omega) ?_ | ((first | refine wG ?_ | refine wH ?_ | refine wI ?_ | refine wJ ?_ | refine wK ?_ | refine wL ?_); simp (disch := omega) only [wP, wZ, undef, UInt8.reduceToNat, Nat.reduceOr, Nat.reduceAnd, Nat.reduceXor, Nat.reduceDiv, if_pos, if_neg, aStore, frz, AV.flat, ↓reduceIte, ne_eq, reduceCtorEq, Int.reduceToNat, Nat.reduceEqDiff, Nat.reduceAdd, Nat.reduceSub, Nat.reduceMul, Int.reduceAdd, Int.reduceMul, Int.reduceSub, Int.reduceLT, Int.reduceLE, Int.reduceEq, Int.reduceNe, Nat.reduceLeDiff, Nat.reduceLT, Int.reduceNeg, Nat.reducePow, Nat.reduceMod, ByteArray.size, iR, hFl, hZd]))
def codeOf (l : List Nat) (i : Nat) : Nat := if l.getD i 0 = 0 then 0 else fr l (l.getD i 0) + (l.take i).count (l.getD i 0)
theorem zerosN {n : Nat} : (List.replicate n [AV.sc (.int .i64 0)]).flatten = (List.replicate n 0).map nA := by
  induction n with
  | zero => rfl
  | succ n ih => simp only [List.replicate_succ, List.flatten_cons, ih, List.map_cons]; rfl
def st (l : List Nat) (n k : Nat) : List Nat := (List.range l.length).map fun i => if l.getD i 0 < n ∨ (l.getD i 0 = n ∧ i < k) then codeOf l i else l.getD i 0
end Go.Proofs.YtbcncdpaigljeaaGreatDoor.Aw
namespace Go.Proofs.YtbcncdpaigljeaaGreatDoor.Aw
open Go
set_option linter.unusedSimpArgs false
set_option linter.unusedVariables false
def syms (l : List Nat) (k n : Nat) : List Nat := if n = 0 then [] else (List.range k).filter fun s => decide (l.getD s 0 = n)
theorem syms_succ {l : List Nat} {k n : Nat} (hn : n ≠ 0) : syms l (k + 1) n = if l.getD k 0 = n then syms l k n ++ [k] else syms l k n := by
  unfold syms
  rw [if_neg hn, if_neg hn, List.range_succ, List.filter_append]
  by_cases e : l.getD k 0 = n
  · rw [if_pos e, List.filter_cons, decide_eq_true e]; rfl
  · rw [if_neg e, List.filter_cons, decide_eq_false e]; simp
theorem length_syms {l : List Nat} : ∀ {k n : Nat}, k ≤ l.length → (syms l k n).length = if n = 0 then 0 else (l.take k).count n
  | 0, n, _ => by unfold syms; split <;> simp
  | k + 1, n, h => by
    have ih := length_syms (l := l) (k := k) (n := n) (by omega)
    by_cases hn : n = 0
    · subst hn; rfl
    · rw [if_neg hn] at ih ⊢
      rw [syms_succ hn, count_snoc (by omega)]
      by_cases e : l.getD k 0 = n
      · rw [if_pos e, if_pos e.symm, List.length_append, ih]; rfl
      · rw [if_neg e, if_neg (fun h => e h.symm), ih]; rfl
theorem length_syms_le {l : List Nat} {k n : Nat} (h : k ≤ l.length) : (syms l k n).length ≤ l.length := by
  rw [length_syms h]
  split
  · omega
  · exact count_take_le
def trR (l : List Nat) : List AV := (r16 (fr l)).map nA ++ (List.range 16).map (fun n => AV.sl (nl0 (syms l l.length n).length) none ((syms l l.length n).map nA)) ++ [.sc (.int .i64 (kraft l : Nat))]
def trC (l : List Nat) (k : Nat) (gs : Nat → Nat) : List AV := (r16 (fr l)).map nA ++ ownR 200 16 gs (fun n => (syms l k n).length) ++ [.sc (.int .i64 (kraft l : Nat))]
def trH (l : List Nat) (k : Nat) (gs : Nat → Nat) : Hp := fun i => if i = 18 then some (0, .row false (trC l k gs)) else if 200 ≤ i ∧ i < 216 then some (gs (i - 200), .row (nl0 (syms l k (i - 200)).length) ((syms l k (i - 200)).map nA)) else none
theorem trH_18 {l : List Nat} {k : Nat} {gs : Nat → Nat} : trH l k gs 18 = some (0, .row false (trC l k gs)) := by simp [trH]
theorem trH_sym {l : List Nat} {k x : Nat} {gs : Nat → Nat} (h : x < 16) : trH l k gs (200 + x) = some (gs x, .row (nl0 (syms l k x).length) ((syms l k x).map nA)) := by
  simp only [trH]
  rw [if_neg (by omega), if_pos (by omega), show 200 + x - 200 = x by omega]
theorem length_trC {l : List Nat} {k : Nat} {gs : Nat → Nat} : (trC l k gs).length = 33 := by simp [trC, length_r16, length_ownR]
theorem trC_get {l : List Nat} {k x : Nat} {gs : Nat → Nat} (h : x < 16) : (trC l k gs).getD (16 + x) .junk = .own (200 + x) (gs x) none 0 (syms l k x).length := by
  unfold trC
  simp only [List.getD]
  rw [List.getElem?_append_left (by simp [length_r16, length_ownR]; omega), List.getElem?_append_right (by simp [length_r16])]
  simp only [List.length_map, length_r16, show 16 + x - 16 = x by omega]
  rw [ownR_get h]; rfl
theorem trC_set {l : List Nat} {k x c : Nat} {gs : Nat → Nat} (hx : x < 16) (hx0 : x ≠ 0) (hk : l.getD k 0 = x) :
    (trC l k gs).take (16 + x) ++ AV.own (200 + x) c none 0 ((syms l k x).length + 1) :: (trC l k gs).drop (16 + x + 1) = trC l (k + 1) (fun j => if j = x then c else gs j) := by
  have h := List.set_eq_take_append_cons_drop (l := trC l k gs) (i := 16 + x) (a := AV.own (200 + x) c none 0 ((syms l k x).length + 1))
  rw [if_pos (by rw [length_trC]; omega)] at h
  rw [← h]
  unfold trC
  rw [List.set_append_left _ _ (by simp [length_r16, length_ownR]; omega), List.set_append_right _ _ (by simp [length_r16])]
  congr 2
  simp only [List.length_map, length_r16, show 16 + x - 16 = x by omega]
  apply List.ext_getElem?
  intro i
  rw [List.getElem?_set, length_ownR]
  by_cases hi : i < 16
  · rw [ownR_get hi, ownR_get hi]
    by_cases e : x = i
    · subst e
      rw [if_pos rfl, if_pos hi, if_pos rfl, syms_succ hx0, if_pos hk, List.length_append]; rfl
    · rw [if_neg e, if_neg (fun h => e h.symm)]
      by_cases i0 : i = 0
      · subst i0; rfl
      · rw [syms_succ i0, if_neg (by omega)]
  · rw [List.getElem?_eq_none (by rw [length_ownR]; omega), List.getElem?_eq_none (by rw [length_ownR]; omega), if_neg (by omega)]
theorem syms_same {l : List Nat} {k n : Nat} (hk : l.getD k 0 = 0) : syms l (k + 1) n = syms l k n := by
  by_cases h : n = 0
  · subst h; rfl
  · rw [syms_succ h, if_neg (by omega)]
theorem trH_same {l : List Nat} {k : Nat} {gs : Nat → Nat} (hk : l.getD k 0 = 0) : trH l (k + 1) gs = trH l k gs := by
  funext i
  simp only [trH, trC, syms_same hk]
theorem trH_next {l : List Nat} {k x c : Nat} {gs : Nat → Nat} (hx : x < 16) (hx0 : x ≠ 0) (hk : l.getD k 0 = x) {cs : List AV} (hcs : cs = trC l (k + 1) (fun j => if j = x then c else gs j)) :
    updH (updH (trH l k gs) (200 + x) (some (c, .row false ((syms l k x).map nA ++ [.sc (.int .i64 (k : Int))])))) 18 (some (0, .row false cs)) = trH l (k + 1) (fun j => if j = x then c else gs j) := by
  funext i
  simp only [updH, trH]
  by_cases e1 : i = 18
  · simp only [if_pos e1, hcs]
  · simp only [if_neg e1]
    by_cases e2 : i = 200 + x
    · rw [if_pos e2, if_pos (by omega), show i - 200 = x by omega, if_pos rfl, syms_succ hx0, if_pos hk]
      simp only [List.map_append, List.map_cons, List.map_nil, List.length_append, List.length_singleton, nl0_succ]
      rfl
    · rw [if_neg e2]
      by_cases e3 : 200 ≤ i ∧ i < 216
      · rw [if_pos e3, if_pos e3, if_neg (by omega)]
        by_cases i0 : i - 200 = 0
        · rw [i0]; rfl
        · rw [syms_succ i0, if_neg (by omega)]
      · rw [if_neg e3, if_neg e3]
theorem le_fun {st : ASt} {l : List (Nat × AV)} {H : Hp} {gc N : Nat} (hN : N = st.N) (hgc : st.gc ≤ gc) (hl : AllTm st.tm l) (hh : st.hp = H) : Le st ⟨look l, H, gc, N⟩ := by
  have := le_mk (st := st) (gc := gc) (h := []) hN hgc hl trivial
  exact ⟨this.tm, fun id => .inl (by rw [← hh]), hgc, hN⟩
set_option maxRecDepth 100000 in
theorem huff_NewTree_c [Tabs Tryz.prog] (nl : Bool) (li : List Int) (hc : chk li = 0) (l : List Nat) (hli : l = li.map Int.toNat) : Con Tryz.prog n_huff_NewTree [.sl nl none (li.map int)] (.tup [.fp (.agg (trR l)) 0, int 0]) := by
  obtain ⟨hlen, ha, hK⟩ := chk_ok hc
  obtain ⟨hm, h15⟩ := okLens ha
  rw [← hli] at hm h15 hK
  have hl : l.length ≤ 320 := by rw [hli, List.length_map]; exact hlen
  have hchk := huff_Check_c nl li (by omega)
  rw [hm, hc] at hchk
  rw [hm]
  clear hm ha hc
  have hfT : AV.free.freeL (trR l) = true := by
    unfold trR
    rw [free_append, free_append, free_nA]
    have : AV.free.freeL ((List.range 16).map (fun n => AV.sl (nl0 (syms l l.length n).length) none ((syms l l.length n).map nA))) = true := freeL_iff.2 fun x hx => by
      obtain ⟨n, _, rfl⟩ := List.mem_map.1 hx
      simp only [AV.free, free_nA]
    rw [this]; rfl
  refine Con.of' mix Tryz.func101 rfl Tryz.ntmps101 e_huff_NewTree r_huff_NewTree (by simp) (by simp only [AV.free, AV.free.freeL, free_nA, Bool.and_self]) (by simp only [AV.free, AV.free.freeL, hfT, int, Bool.and_self]) ?_
  unfold s_huff_NewTree
  have hf : AV.free.freeL [.sl nl none (l.map nA)] = true := by simp only [AV.free, AV.free.freeL, free_nA, Bool.and_self]
  have hfr := huff_firstRows_c nl l hl h15
  have htk := huff_taken_c nl l (by omega) h15
  obtain ⟨F, hF⟩ : ∃ F, F = r16 (fr l) := ⟨_, rfl⟩
  have hFl : F.length = 16 := by rw [hF, length_r16]
  have hFm : (F.map nA).length = 16 := by rw [List.length_map, hFl]
  rw [← hF] at hfr
  obtain ⟨K, hKd⟩ : ∃ K, K = kraft l := ⟨_, rfl⟩
  rw [← hKd] at htk
  have ht1 : ∀ (x y : AV) (r : List AV), List.take 32 (F.map nA ++ (x :: y :: r)) = F.map nA ++ List.take 16 (x :: y :: r) := fun x y r => by rw [List.take_append, hFm, List.take_of_length_le (by omega)]
  have ht2 : ∀ (x y : AV) (r : List AV), List.drop 33 (F.map nA ++ (x :: y :: r)) = List.drop 17 (x :: y :: r) := fun x y r => by rw [List.drop_append, hFm, List.drop_of_length_le (by omega)]; rfl
  repeat (first | refine wA ?_ | refine wB ?_ | refine wC rfl ?_ | refine wD rfl ?_ | refine wE ?_ | refine wF (by omega) ?_ | ((first | refine wG ?_ | refine wH ?_ | refine wI ?_ | refine wJ ?_ | refine wK ?_ | refine wL ?_); simp (disch := omega) only [wP, wZ, undef, UInt8.reduceToNat, Nat.reduceOr, Nat.reduceAnd, Nat.reduceXor, Nat.reduceDiv, if_pos, if_neg, aStore, frz, AV.flat, ↓reduceIte, ne_eq, reduceCtorEq, Int.reduceToNat, Nat.reduceEqDiff, Nat.reduceAdd, Nat.reduceSub, Nat.reduceMul, Int.reduceAdd, Int.reduceMul, Int.reduceSub, Int.reduceLT, Int.reduceLE, Int.reduceEq, Int.reduceNe, Nat.reduceLeDiff, Nat.reduceLT, Int.reduceNeg, Nat.reducePow, Nat.reduceMod, ByteArray.size]))
  refine goC_p _ (.inl ⟨hf, hchk⟩) ?_
  repeat (first | refine wA ?_ | refine wB ?_ | refine wC rfl ?_ | refine wD rfl ?_ | refine wE ?_ | refine wF (by omega) ?_ | ((first | refine wG ?_ | refine wH ?_ | refine wI ?_ | refine wJ ?_ | refine wK ?_ | refine wL ?_); simp (disch := omega) only [wP, wZ, undef, UInt8.reduceToNat, Nat.reduceOr, Nat.reduceAnd, Nat.reduceXor, Nat.reduceDiv, if_pos, if_neg, aStore, frz, AV.flat, ↓reduceIte, ne_eq, reduceCtorEq, Int.reduceToNat, Nat.reduceEqDiff, Nat.reduceAdd, Nat.reduceSub, Nat.reduceMul, Int.reduceAdd, Int.reduceMul, Int.reduceSub, Int.reduceLT, Int.reduceLE, Int.reduceEq, Int.reduceNe, Nat.reduceLeDiff, Nat.reduceLT, Int.reduceNeg, Nat.reducePow, Nat.reduceMod, ByteArray.size]))
  refine goC_p _ (.inl ⟨hf, hfr⟩) ?_
  repeat (first | refine wA ?_ | refine wB ?_ | refine wC rfl ?_ | refine wD rfl ?_ | refine wE ?_ | refine wF (by omega) ?_ | ((first | refine wG ?_ | refine wH ?_ | refine wI ?_ | refine wJ ?_ | refine wK ?_ | refine wL ?_); simp (disch := omega) only [wP, wZ, undef, UInt8.reduceToNat, Nat.reduceOr, Nat.reduceAnd, Nat.reduceXor, Nat.reduceDiv, if_pos, if_neg, aStore, frz, AV.flat, ↓reduceIte, ne_eq, reduceCtorEq, Int.reduceToNat, Nat.reduceEqDiff, Nat.reduceAdd, Nat.reduceSub, Nat.reduceMul, Int.reduceAdd, Int.reduceMul, Int.reduceSub, Int.reduceLT, Int.reduceLE, Int.reduceEq, Int.reduceNe, Nat.reduceLeDiff, Nat.reduceLT, Int.reduceNeg, Nat.reducePow, Nat.reduceMod, ByteArray.size]))
  refine goC_p _ (.inl ⟨hf, htk⟩) ?_
  repeat (first | refine wA ?_ | refine wB ?_ | refine wC rfl ?_ | refine wD rfl ?_ | refine wE ?_ | refine wF (by omega) ?_ | ((first | refine wG ?_ | refine wH ?_ | refine wI ?_ | refine wJ ?_ | refine wK ?_ | refine wL ?_); simp (disch := omega) only [wP, wZ, undef, UInt8.reduceToNat, Nat.reduceOr, Nat.reduceAnd, Nat.reduceXor, Nat.reduceDiv, if_pos, if_neg, aStore, frz, AV.flat, ↓reduceIte, ne_eq, reduceCtorEq, Int.reduceToNat, Nat.reduceEqDiff, Nat.reduceAdd, Nat.reduceSub, Nat.reduceMul, Int.reduceAdd, Int.reduceMul, Int.reduceSub, Int.reduceLT, Int.reduceLE, Int.reduceEq, Int.reduceNe, Nat.reduceLeDiff, Nat.reduceLT, Int.reduceNeg, Nat.reducePow, Nat.reduceMod, ByteArray.size, hFl, ht1, ht2]))
  refine SWp.le (le_mk (N := 44) (gc := 1) (l := [(5, .op 18 0 0), (19, .sl nl none (l.map nA)), (20, int l.length), (21, int 0)]) (h := [(18, 0, .row false (F.map nA ++ List.replicate 16 (AV.sc (.slice none 0 0)) ++ [.sc (.int .i64 (K : Int))]))]) rfl ?_ ?_ ?_) ?_
  iterate 2 (case _ => simp (disch := omega) only [wP, wZ, undef, UInt8.reduceToNat, Nat.reduceOr, Nat.reduceAnd, Nat.reduceXor, Nat.reduceDiv, if_pos, if_neg, aStore, frz, AV.flat, ↓reduceIte, ne_eq, reduceCtorEq, Int.reduceToNat, Nat.reduceEqDiff, Nat.reduceAdd, Nat.reduceSub, Nat.reduceMul, Int.reduceAdd, Int.reduceMul, Int.reduceSub, Int.reduceLT, Int.reduceLE, Int.reduceEq, Int.reduceNe, Nat.reduceLeDiff, Nat.reduceLT, Int.reduceNeg, Nat.reducePow, Nat.reduceMod, ByteArray.size])
  · simp (disch := omega) only [wP, wZ, undef, UInt8.reduceToNat, Nat.reduceOr, Nat.reduceAnd, Nat.reduceXor, Nat.reduceDiv, if_pos, if_neg, aStore, frz, AV.flat, ↓reduceIte, ne_eq, reduceCtorEq, Int.reduceToNat, Nat.reduceEqDiff, Nat.reduceAdd, Nat.reduceSub, Nat.reduceMul, Int.reduceAdd, Int.reduceMul, Int.reduceSub, Int.reduceLT, Int.reduceLE, Int.reduceEq, Int.reduceNe, Nat.reduceLeDiff, Nat.reduceLT, Int.reduceNeg, Nat.reducePow, Nat.reduceMod, ByteArray.size]
    rfl
  refine SWp.adoptN 18 0 200 16 (nl := false) (pre := F.map nA) (post := [.sc (.int .i64 (K : Int))]) (by omega) (by simp (disch := omega) only [wP, wZ, undef, UInt8.reduceToNat, Nat.reduceOr, Nat.reduceAnd, Nat.reduceXor, Nat.reduceDiv, if_pos, if_neg, aStore, frz, AV.flat, ↓reduceIte, ne_eq, reduceCtorEq, Int.reduceToNat, Nat.reduceEqDiff, Nat.reduceAdd, Nat.reduceSub, Nat.reduceMul, Int.reduceAdd, Int.reduceMul, Int.reduceSub, Int.reduceLT, Int.reduceLE, Int.reduceEq, Int.reduceNe, Nat.reduceLeDiff, Nat.reduceLT, Int.reduceNeg, Nat.reducePow, Nat.reduceMod, ByteArray.size]) ?_
  refine SWp.loop (α := Nat × (Nat → Nat) × Nat) (fun x => ⟨look [(5, .op 18 0 0), (19, .sl nl none (l.map nA)), (20, int l.length), (21, int x.1)], trH l x.1 x.2.1, x.2.2, 44⟩)
    (fun x => x.1 ≤ l.length) (fun x => l.length - x.1) (0, fun j => 1 + j, 17) (Nat.zero_le _) (le_fun rfl ?_ ?_ ?_) ?_
  · exact Nat.le_refl _
  · simp (disch := omega) only [wP, wZ, undef, UInt8.reduceToNat, Nat.reduceOr, Nat.reduceAnd, Nat.reduceXor, Nat.reduceDiv, if_pos, if_neg, aStore, frz, AV.flat, ↓reduceIte, ne_eq, reduceCtorEq, Int.reduceToNat, Nat.reduceEqDiff, Nat.reduceAdd, Nat.reduceSub, Nat.reduceMul, Int.reduceAdd, Int.reduceMul, Int.reduceSub, Int.reduceLT, Int.reduceLE, Int.reduceEq, Int.reduceNe, Nat.reduceLeDiff, Nat.reduceLT, Int.reduceNeg, Nat.reducePow, Nat.reduceMod, ByteArray.size]
  · funext i
    simp only [adH, trH, trC, ← hF, ← hKd, mk_eq, lookH]
    by_cases e1 : i = 18
    · rw [if_pos e1, if_pos e1]
      simp [ownR, syms]
    · simp only [if_neg e1]
      by_cases e2 : 200 ≤ i ∧ i < 216
      · rw [if_pos (by omega), if_pos e2]
        simp [syms, nl0]
      · rw [if_neg (by omega), if_neg e2]
  rintro ⟨k, gs, c⟩ hk -
  simp only at hk
  repeat (first | refine wA ?_ | refine wB ?_ | refine wC rfl ?_ | refine wD rfl ?_ | refine wE ?_ | refine wF (by omega) ?_ | ((first | refine wG ?_ | refine wH ?_ | refine wI ?_ | refine wJ ?_ | refine wK ?_ | refine wL ?_); simp (disch := omega) only [wP, wZ, undef, UInt8.reduceToNat, Nat.reduceOr, Nat.reduceAnd, Nat.reduceXor, Nat.reduceDiv, if_pos, if_neg, aStore, frz, AV.flat, ↓reduceIte, ne_eq, reduceCtorEq, Int.reduceToNat, Nat.reduceEqDiff, Nat.reduceAdd, Nat.reduceSub, Nat.reduceMul, Int.reduceAdd, Int.reduceMul, Int.reduceSub, Int.reduceLT, Int.reduceLE, Int.reduceEq, Int.reduceNe, Nat.reduceLeDiff, Nat.reduceLT, Int.reduceNeg, Nat.reducePow, Nat.reduceMod, ByteArray.size]))
  refine SWp.cond rfl (fun h => ?_) (fun h => ?_)
  · simp only [decide_eq_true_eq] at h
    have hkl : k < l.length := by omega
    have hx15 : l.getD k 0 ≤ 15 := by
      have : l.getD k 0 = l[k] := by simp [List.getD, List.getElem?_eq_getElem hkl]
      rw [this]; exact h15 _ (List.getElem_mem hkl)
    obtain ⟨x, hx⟩ : ∃ x, x = l.getD k 0 := ⟨_, rfl⟩
    rw [← hx] at hx15
    by_cases c0 : x = 0
    · subst c0
      repeat (first | refine wA ?_ | refine wB ?_ | refine wC rfl ?_ | refine wD rfl ?_ | refine wE ?_ | refine wF (by omega) ?_ | ((first | refine wG ?_ | refine wH ?_ | refine wI ?_ | refine wJ ?_ | refine wK ?_ | refine wL ?_); simp (disch := omega) only [wP, wZ, undef, UInt8.reduceToNat, Nat.reduceOr, Nat.reduceAnd, Nat.reduceXor, Nat.reduceDiv, if_pos, if_neg, aStore, frz, AV.flat, ↓reduceIte, ne_eq, reduceCtorEq, Int.reduceToNat, Nat.reduceEqDiff, Nat.reduceAdd, Nat.reduceSub, Nat.reduceMul, Int.reduceAdd, Int.reduceMul, Int.reduceSub, Int.reduceLT, Int.reduceLE, Int.reduceEq, Int.reduceNe, Nat.reduceLeDiff, Nat.reduceLT, Int.reduceNeg, Nat.reducePow, Nat.reduceMod, ByteArray.size, iR, ← hx]))
      refine ⟨(k + 1, gs, c), by simp only; omega, by simp only; omega, le_fun rfl (Nat.le_refl _) ?_ ?_⟩
      · simp (disch := omega) only [wP, wZ, undef, UInt8.reduceToNat, Nat.reduceOr, Nat.reduceAnd, Nat.reduceXor, Nat.reduceDiv, if_pos, if_neg, aStore, frz, AV.flat, ↓reduceIte, ne_eq, reduceCtorEq, Int.reduceToNat, Nat.reduceEqDiff, Nat.reduceAdd, Nat.reduceSub, Nat.reduceMul, Int.reduceAdd, Int.reduceMul, Int.reduceSub, Int.reduceLT, Int.reduceLE, Int.reduceEq, Int.reduceNe, Nat.reduceLeDiff, Nat.reduceLT, Int.reduceNeg, Nat.reducePow, Nat.reduceMod, ByteArray.size]
      · exact (trH_same hx.symm).symm
    · have d0 : decide ((0 : Int) < (x : Int)) = true := decide_eq_true (by omega)
      have hsl := length_syms_le (l := l) (k := k) (n := x) hk
      have hcs := trC_set (c := c) (gs := gs) (by omega) c0 hx.symm
      repeat (first | refine wA ?_ | refine wB ?_ | refine wC rfl ?_ | refine wD rfl ?_ | refine wE ?_ | refine wF (by omega) ?_ | ((first | refine wG ?_ | refine wH ?_ | refine wI ?_ | refine wJ ?_ | refine wK ?_ | refine wL ?_); simp (disch := omega) only [wP, wZ, undef, UInt8.reduceToNat, Nat.reduceOr, Nat.reduceAnd, Nat.reduceXor, Nat.reduceDiv, if_pos, if_neg, aStore, frz, AV.flat, ↓reduceIte, ne_eq, reduceCtorEq, Int.reduceToNat, Nat.reduceEqDiff, Nat.reduceAdd, Nat.reduceSub, Nat.reduceMul, Int.reduceAdd, Int.reduceMul, Int.reduceSub, Int.reduceLT, Int.reduceLE, Int.reduceEq, Int.reduceNe, Nat.reduceLeDiff, Nat.reduceLT, Int.reduceNeg, Nat.reducePow, Nat.reduceMod, ByteArray.size, iR, ← hx, d0, trH_18, trH_sym, trC_get, length_trC, Nat.mul_one]))
      refine ⟨(k + 1, fun j => if j = x then c else gs j, c + 1), by simp only; omega, by simp only; omega, le_fun rfl (Nat.le_refl _) ?_ ?_⟩
      · simp (disch := omega) only [wP, wZ, undef, UInt8.reduceToNat, Nat.reduceOr, Nat.reduceAnd, Nat.reduceXor, Nat.reduceDiv, if_pos, if_neg, aStore, frz, AV.flat, ↓reduceIte, ne_eq, reduceCtorEq, Int.reduceToNat, Nat.reduceEqDiff, Nat.reduceAdd, Nat.reduceSub, Nat.reduceMul, Int.reduceAdd, Int.reduceMul, Int.reduceSub, Int.reduceLT, Int.reduceLE, Int.reduceEq, Int.reduceNe, Nat.reduceLeDiff, Nat.reduceLT, Int.reduceNeg, Nat.reducePow, Nat.reduceMod, ByteArray.size]
      · exact trH_next (by omega) c0 hx.symm hcs
  · simp only [decide_eq_false_iff_not] at h
    obtain rfl : k = l.length := by omega
    refine SWp.le (st' := ⟨look [(5, .op 18 0 0)], trH l l.length gs, c, 44⟩) (le_fun rfl (Nat.le_refl _) ?_ rfl) ?_
    · simp (disch := omega) only [wP, wZ, undef, UInt8.reduceToNat, Nat.reduceOr, Nat.reduceAnd, Nat.reduceXor, Nat.reduceDiv, if_pos, if_neg, aStore, frz, AV.flat, ↓reduceIte, ne_eq, reduceCtorEq, Int.reduceToNat, Nat.reduceEqDiff, Nat.reduceAdd, Nat.reduceSub, Nat.reduceMul, Int.reduceAdd, Int.reduceMul, Int.reduceSub, Int.reduceLT, Int.reduceLE, Int.reduceEq, Int.reduceNe, Nat.reduceLeDiff, Nat.reduceLT, Int.reduceNeg, Nat.reducePow, Nat.reduceMod, ByteArray.size]
    refine SWp.frzN 18 0 200 16 (nl := false) (pre := (r16 (fr l)).map nA) (post := [.sc (.int .i64 (kraft l : Nat))]) (gs := gs) (ls := fun n => nl0 (syms l l.length n).length) (xs := fun n => (syms l l.length n).map nA) (by omega) ?_ ?_ (fun _ _ => free_nA) free_nA rfl ?_ ?_
    · rw [trH_18]
      simp only [trC, ownR, mixR, Nat.not_lt_zero, if_false, List.length_map]
    · intro i hi
      exact trH_sym hi
    · intro t i hi
      by_cases e : t = 5
      · subst e
        show fzo _ _ _ _ (.op 18 0 0) = .op 18 0 0
        rw [fzo_op, if_neg (by omega)]
      · have : look [(5, AV.op 18 0 0)] t = .junk := by simp only [look]; rw [if_neg e]
        rw [this]; rfl
    have hm : (r16 (fr l)).map nA ++ mixR 200 16 16 gs (fun n => nl0 (syms l l.length n).length) (fun n => (syms l l.length n).map nA) ++ [.sc (.int .i64 (kraft l : Nat))] = trR l := by
      unfold trR
      have : mixR 200 16 16 gs (fun n => nl0 (syms l l.length n).length) (fun n => (syms l l.length n).map nA) = (List.range 16).map (fun n => AV.sl (nl0 (syms l l.length n).length) none ((syms l l.length n).map nA)) := List.map_congr_left fun i hi => by rw [if_pos (List.mem_range.1 hi)]
      rw [this]
    have hH : mixH 18 0 200 16 16 gs (fun n => nl0 (syms l l.length n).length) (fun n => (syms l l.length n).map nA) false ((r16 (fr l)).map nA) [.sc (.int .i64 (kraft l : Nat))] 18 = some (0, .row false (trR l)) := by
      unfold mixH; rw [if_pos rfl, hm]
    refine SWp.le (le_mk (N := 44) (gc := c) (l := [(5, .op 18 0 0)]) (h := [(18, 0, .row false (trR l))]) rfl (Nat.le_refl _) ?_ ?_) ?_
    iterate 2 (case _ => simp (disch := omega) only [wP, wZ, undef, UInt8.reduceToNat, Nat.reduceOr, Nat.reduceAnd, Nat.reduceXor, Nat.reduceDiv, if_pos, if_neg, aStore, frz, AV.flat, ↓reduceIte, ne_eq, reduceCtorEq, Int.reduceToNat, Nat.reduceEqDiff, Nat.reduceAdd, Nat.reduceSub, Nat.reduceMul, Int.reduceAdd, Int.reduceMul, Int.reduceSub, Int.reduceLT, Int.reduceLE, Int.reduceEq, Int.reduceNe, Nat.reduceLeDiff, Nat.reduceLT, Int.reduceNeg, Nat.reducePow, Nat.reduceMod, ByteArray.size, hH])
    repeat (first | refine wA ?_ | refine wB ?_ | refine wC rfl ?_ | refine wD rfl ?_ | refine wE ?_ | refine wF (by omega) ?_ | ((first | refine wG ?_ | refine wH ?_ | refine wI ?_ | refine wJ ?_ | refine wK ?_ | refine wL ?_); simp (disch := omega) only [wP, wZ, undef, UInt8.reduceToNat, Nat.reduceOr, Nat.reduceAnd, Nat.reduceXor, Nat.reduceDiv, if_pos, if_neg, aStore, frz, AV.flat, ↓reduceIte, ne_eq, reduceCtorEq, Int.reduceToNat, Nat.reduceEqDiff, Nat.reduceAdd, Nat.reduceSub, Nat.reduceMul, Int.reduceAdd, Int.reduceMul, Int.reduceSub, Int.reduceLT, Int.reduceLE, Int.reduceEq, Int.reduceNe, Nat.reduceLeDiff, Nat.reduceLT, Int.reduceNeg, Nat.reducePow, Nat.reduceMod, ByteArray.size, hfT]))
    all_goals trace_state
end Go.Proofs.YtbcncdpaigljeaaGreatDoor.Aw
namespace Go.Proofs.YtbcncdpaigljeaaGreatDoor.Aw
open Go
set_option linter.unusedSimpArgs false
set_option linter.unusedVariables false
theorem length_symsF {l : List Nat} {n : Nat} : (syms l l.length n).length = cn l n := by
  rw [length_syms (Nat.le_refl _), List.take_length]; rfl
theorem length_trR {l : List Nat} : (trR l).length = 33 := by simp [trR, length_r16]
theorem trR_fr {l : List Nat} {n : Nat} (h : n < 16) : (trR l).getD n .junk = .sc (.int .i64 ((fr l n : Nat) : Int)) := by
  unfold trR
  rw [List.append_assoc]
  simp only [List.getD]
  rw [List.getElem?_append_left (by simp [length_r16]; exact h)]
  simp [r16, h, nA]
theorem trR_sym {l : List Nat} {n : Nat} (h : n < 16) : (trR l).getD (16 + n) .junk = .sl (nl0 (cn l n)) none ((syms l l.length n).map nA) := by
  unfold trR
  simp only [List.getD]
  rw [List.getElem?_append_left (by simp [length_r16]; omega), List.getElem?_append_right (by simp [length_r16])]
  simp [length_r16, h, length_symsF]
theorem trR_last {l : List Nat} : (trR l).getD 32 .junk = .sc (.int .i64 ((kraft l : Nat) : Int)) := by
  unfold trR
  simp only [List.getD]
  rw [List.getElem?_append_right (by simp [length_r16])]
  simp [length_r16]
theorem free_trR {l : List Nat} : AV.free.freeL (trR l) = true := by
  unfold trR
  rw [free_append, free_append, free_nA]
  have : AV.free.freeL ((List.range 16).map (fun n => AV.sl (nl0 (syms l l.length n).length) none ((syms l l.length n).map nA))) = true := freeL_iff.2 fun x hx => by
    obtain ⟨n, _, rfl⟩ := List.mem_map.1 hx
    simp only [AV.free, free_nA]
  rw [this]; rfl
theorem huff_begins_c [Tabs Tryz.prog] (l : List Nat) (hK : kraft l ≤ 32768) (v n : Nat) (hv : v < 65536) (hn : n ≤ 15) : Con Tryz.prog n_huff_Tree_begins [.fp (.agg (trR l)) 0, .sc (.int .i64 (v : Int)), .sc (.int .i64 (n : Int))] (boo (decide (v * 2 ^ (15 - n) < kraft l))) := by
  refine Con.of' mix Tryz.func135 rfl Tryz.ntmps135 e_huff_Tree_begins r_huff_Tree_begins (by simp) (by simp only [AV.free, AV.free.freeL, free_trR, Bool.and_self]) rfl ?_
  unfold s_huff_Tree_begins
  have e1 : (15 : Int) - (n : Int) = ((15 - n : Nat) : Int) := by omega
  have hp : 2 ^ (15 - n) ≤ 32768 := two_pow_le (n := 15 - n) (m := 15) (by omega)
  obtain ⟨j, hj⟩ : ∃ j, j = 15 - n := ⟨_, rfl⟩
  rw [← hj] at hp e1 ⊢
  have hj15 : j ≤ 15 := by omega
  have hz : v * 2 ^ j ≤ 65536 * 32768 := Nat.mul_le_mul (by omega) hp
  obtain ⟨z, hzz⟩ : ∃ z, z = v * 2 ^ j := ⟨_, rfl⟩
  rw [← hzz] at hz ⊢
  have hd : decide ((z : Int) < ((kraft l : Nat) : Int)) = decide (z < kraft l) := decide_eq_decide.2 (by omega)
  repeat (first | refine wA ?_ | refine wB ?_ | refine wC rfl ?_ | refine wD rfl ?_ | refine wE ?_ | refine wF (by omega) ?_ | ((first | refine wG ?_ | refine wH ?_ | refine wI ?_ | refine wJ ?_ | refine wK ?_ | refine wL ?_); simp (disch := omega) only [wP, wZ, undef, UInt8.reduceToNat, Nat.reduceOr, Nat.reduceAnd, Nat.reduceXor, Nat.reduceDiv, if_pos, if_neg, aStore, frz, AV.flat, ↓reduceIte, ne_eq, reduceCtorEq, Int.reduceToNat, Nat.reduceEqDiff, Nat.reduceAdd, Nat.reduceSub, Nat.reduceMul, Int.reduceAdd, Int.reduceMul, Int.reduceSub, Int.reduceLT, Int.reduceLE, Int.reduceEq, Int.reduceNe, Nat.reduceLeDiff, Nat.reduceLT, Int.reduceNeg, Nat.reducePow, Nat.reduceMod, ByteArray.size, e1, ← hzz, length_trR, trR_last, hd]))
def nxt (l B : List Nat) : Nat → Nat → Nat → Nat × Nat × Nat
  | 0, n, _ => (0, n, 3)
  | f + 1, n, v =>
    if B.length ≤ n then (0, n, 2) else
    if kraft l ≤ (2 * v + B.getD n 0) * 2 ^ (15 - (n + 1)) then (0, n + 1, 3) else
    if 2 * v + B.getD n 0 - fr l (n + 1) < cn l (n + 1) then ((syms l l.length (n + 1)).getD (2 * v + B.getD n 0 - fr l (n + 1)) 0, n + 1, 0) else
    nxt l B f (n + 1) (2 * v + B.getD n 0)
set_option maxHeartbeats 1000000 in
set_option maxRecDepth 100000 in
theorem huff_Next_h [Tabs Tryz.prog] (l : List Nat) (hl : l.length ≤ 320) (hK : kraft l ≤ 32768) (nl : Bool) (b : List UInt8) (hb : b.length ≤ 1000000) (i : Nat) (hi : i ≤ 8 * b.length) (r : Nat × Nat × Nat) (hr : nxt l ((bitsL b).drop i) 15 0 0 = r) :
    HCon Tryz.prog n_huff_Tree_Next [.fp (.agg (trR l)) 0, .op 1000 0 0] [.row false (rdR nl b i)] (.tup [.sc (.int .i64 (r.1 : Int)), .sc (.int .i64 (r.2.2 : Int))]) [(1000, 0, .row false (rdR nl b (i + r.2.1)))] 100 := by
  refine HCon.of' mix Tryz.func102 rfl Tryz.ntmps102 e_huff_Tree_Next r_huff_Tree_Next (by simp) (by simp only [AV.gl.glL, AV.gl, and_true]; exact ⟨glL_of_free _ _ free_trR, by omega⟩) rd_gl ?_
  unfold s_huff_Tree_Next
  repeat (first | refine wA ?_ | refine wB ?_ | refine wC rfl ?_ | refine wD rfl ?_ | refine wE ?_ | refine wF (by omega) ?_ | ((first | refine wG ?_ | refine wH ?_ | refine wI ?_ | refine wJ ?_ | refine wK ?_ | refine wL ?_); simp (disch := omega) only [wP, wZ, undef, UInt8.reduceToNat, Nat.reduceOr, Nat.reduceAnd, Nat.reduceXor, Nat.reduceDiv, if_pos, if_neg, aStore, frz, AV.flat, ↓reduceIte, ne_eq, reduceCtorEq, Int.reduceToNat, Nat.reduceEqDiff, Nat.reduceAdd, Nat.reduceSub, Nat.reduceMul, Int.reduceAdd, Int.reduceMul, Int.reduceSub, Int.reduceLT, Int.reduceLE, Int.reduceEq, Int.reduceNe, Nat.reduceLeDiff, Nat.reduceLT, Int.reduceNeg, Nat.reducePow, Nat.reduceMod, ByteArray.size]))
  refine SWp.loop (α := Nat × Nat) (fun x => mk 55 (1 + 3 * x.1) [(0, .fp (.agg (trR l)) 0), (1, .op 1000 0 0), (6, int (x.2 : Nat)), (10, int x.1)] [(1000, 0, .row false (rdR nl b (i + x.1)))])
    (fun x => x.1 ≤ 15 ∧ i + x.1 ≤ 8 * b.length ∧ x.2 < 2 ^ x.1 ∧ fr l (x.1 + 1) ≤ 2 * x.2 ∧ nxt l ((bitsL b).drop i) (15 - x.1) x.1 x.2 = r) (fun x => 15 - x.1) (0, 0) ⟨Nat.zero_le _, hi, by decide, by simp [fr, cn], hr⟩ (le_mk rfl ?_ ?_ ?_) ?_
  · exact Nat.le_refl _
  iterate 2 (case _ => simp (disch := omega) only [wP, wZ, undef, UInt8.reduceToNat, Nat.reduceOr, Nat.reduceAnd, Nat.reduceXor, Nat.reduceDiv, if_pos, if_neg, aStore, frz, AV.flat, ↓reduceIte, ne_eq, reduceCtorEq, Int.reduceToNat, Nat.reduceEqDiff, Nat.reduceAdd, Nat.reduceSub, Nat.reduceMul, Int.reduceAdd, Int.reduceMul, Int.reduceSub, Int.reduceLT, Int.reduceLE, Int.reduceEq, Int.reduceNe, Nat.reduceLeDiff, Nat.reduceLT, Int.reduceNeg, Nat.reducePow, Nat.reduceMod, ByteArray.size])
  rintro ⟨n, v⟩ ⟨hn, hin, hv, hF, hx⟩ -
  simp only at hn hin hv hF hx
  repeat (first | refine wA ?_ | refine wB ?_ | refine wC rfl ?_ | refine wD rfl ?_ | refine wE ?_ | refine wF (by omega) ?_ | ((first | refine wG ?_ | refine wH ?_ | refine wI ?_ | refine wJ ?_ | refine wK ?_ | refine wL ?_); simp (disch := omega) only [wP, wZ, undef, UInt8.reduceToNat, Nat.reduceOr, Nat.reduceAnd, Nat.reduceXor, Nat.reduceDiv, if_pos, if_neg, aStore, frz, AV.flat, ↓reduceIte, ne_eq, reduceCtorEq, Int.reduceToNat, Nat.reduceEqDiff, Nat.reduceAdd, Nat.reduceSub, Nat.reduceMul, Int.reduceAdd, Int.reduceMul, Int.reduceSub, Int.reduceLT, Int.reduceLE, Int.reduceEq, Int.reduceNe, Nat.reduceLeDiff, Nat.reduceLT, Int.reduceNeg, Nat.reducePow, Nat.reduceMod, ByteArray.size]))
  refine SWp.cond rfl (fun h => ?_) (fun h => ?_)
  · simp only [decide_eq_true_eq] at h
    have hn15 : n < 15 := by omega
    obtain ⟨f, hf⟩ : ∃ f, 15 - n = f + 1 := ⟨14 - n, by omega⟩
    have hBl : ((bitsL b).drop i).length = 8 * b.length - i := by rw [List.length_drop, length_bitsL]
    rw [hf, nxt, hBl] at hx
    have hleft := huff_left_h nl b hb (i + n) hin
    by_cases c0 : 8 * b.length - i ≤ n
    · rw [if_pos c0] at hx
      have d0 : decide (((8 * b.length - (i + n) : Nat) : Int) = 0) = true := decide_eq_true (by omega)
      subst hx
      repeat (first | refine wA ?_ | refine wB ?_ | refine wC rfl ?_ | refine wD rfl ?_ | refine wE ?_ | refine wF (by omega) ?_ | ((first | refine wG ?_ | refine wH ?_ | refine wI ?_ | refine wJ ?_ | refine wK ?_ | refine wL ?_); simp (disch := omega) only [wP, wZ, undef, UInt8.reduceToNat, Nat.reduceOr, Nat.reduceAnd, Nat.reduceXor, Nat.reduceDiv, if_pos, if_neg, aStore, frz, AV.flat, ↓reduceIte, ne_eq, reduceCtorEq, Int.reduceToNat, Nat.reduceEqDiff, Nat.reduceAdd, Nat.reduceSub, Nat.reduceMul, Int.reduceAdd, Int.reduceMul, Int.reduceSub, Int.reduceLT, Int.reduceLE, Int.reduceEq, Int.reduceNe, Nat.reduceLeDiff, Nat.reduceLT, Int.reduceNeg, Nat.reducePow, Nat.reduceMod, ByteArray.size]))
      refine goC_h [(1000, 0)] 2000 hleft (by simp) (by simp) ?_ ?_ ?_
      iterate 2 (case _ => simp (disch := omega) only [wP, wZ, undef, UInt8.reduceToNat, Nat.reduceOr, Nat.reduceAnd, Nat.reduceXor, Nat.reduceDiv, if_pos, if_neg, aStore, frz, AV.flat, ↓reduceIte, ne_eq, reduceCtorEq, Int.reduceToNat, Nat.reduceEqDiff, Nat.reduceAdd, Nat.reduceSub, Nat.reduceMul, Int.reduceAdd, Int.reduceMul, Int.reduceSub, Int.reduceLT, Int.reduceLE, Int.reduceEq, Int.reduceNe, Nat.reduceLeDiff, Nat.reduceLT, Int.reduceNeg, Nat.reducePow, Nat.reduceMod, ByteArray.size, rdR])
      repeat (first | refine wA ?_ | refine wB ?_ | refine wC rfl ?_ | refine wD rfl ?_ | refine wE ?_ | refine wF (by omega) ?_ | ((first | refine wG ?_ | refine wH ?_ | refine wI ?_ | refine wJ ?_ | refine wK ?_ | refine wL ?_); simp (disch := omega) only [wP, wZ, undef, UInt8.reduceToNat, Nat.reduceOr, Nat.reduceAnd, Nat.reduceXor, Nat.reduceDiv, if_pos, if_neg, aStore, frz, AV.flat, ↓reduceIte, ne_eq, reduceCtorEq, Int.reduceToNat, Nat.reduceEqDiff, Nat.reduceAdd, Nat.reduceSub, Nat.reduceMul, Int.reduceAdd, Int.reduceMul, Int.reduceSub, Int.reduceLT, Int.reduceLE, Int.reduceEq, Int.reduceNe, Nat.reduceLeDiff, Nat.reduceLT, Int.reduceNeg, Nat.reducePow, Nat.reduceMod, ByteArray.size, d0, rdR, iR]))
      omega
    · rw [if_neg c0] at hx
      have d0 : decide (((8 * b.length - (i + n) : Nat) : Int) = 0) = false := decide_eq_false (by omega)
      have hbd : ((bitsL b).drop i).getD n 0 = bitAt b (i + n) := by
        rw [← bitsL_get (by omega)]
        simp [List.getD]
      rw [hbd] at hx
      have hbit := huff_bit_h nl b hb (i + n) (by omega)
      have hbl := bitAt_lt (l := b) (i := i + n)
      obtain ⟨x, hxx⟩ : ∃ x, x = bitAt b (i + n) := ⟨_, rfl⟩
      rw [← hxx] at hx hbit hbl
      have hp : 2 ^ n ≤ 16384 := two_pow_le (n := n) (m := 14) (by omega)
      have hp2 : 2 ^ (n + 1) = 2 * 2 ^ n := by rw [Nat.pow_succ]; omega
      obtain ⟨w, hw⟩ : ∃ w, w = 2 * v + x := ⟨_, rfl⟩
      have hor : v * 2 ||| x = w := by
        have := Nat.two_pow_add_eq_or_of_lt (i := 1) (b := x) (by omega) v
        rw [Nat.pow_one] at this
        rw [hw, Nat.mul_comm v 2]; omega
      have hwl : w < 2 ^ (n + 1) := by omega
      have hwl2 : w < 32768 := by omega
      rw [← hw] at hx
      have hbeg := huff_begins_c l hK w (n + 1) (by omega) (by omega)
      have hfw : fr l (n + 1) ≤ w := by omega
      have hfl := fr_lt hl (n := n + 1) (by omega)
      repeat (first | refine wA ?_ | refine wB ?_ | refine wC rfl ?_ | refine wD rfl ?_ | refine wE ?_ | refine wF (by omega) ?_ | ((first | refine wG ?_ | refine wH ?_ | refine wI ?_ | refine wJ ?_ | refine wK ?_ | refine wL ?_); simp (disch := omega) only [wP, wZ, undef, UInt8.reduceToNat, Nat.reduceOr, Nat.reduceAnd, Nat.reduceXor, Nat.reduceDiv, if_pos, if_neg, aStore, frz, AV.flat, ↓reduceIte, ne_eq, reduceCtorEq, Int.reduceToNat, Nat.reduceEqDiff, Nat.reduceAdd, Nat.reduceSub, Nat.reduceMul, Int.reduceAdd, Int.reduceMul, Int.reduceSub, Int.reduceLT, Int.reduceLE, Int.reduceEq, Int.reduceNe, Nat.reduceLeDiff, Nat.reduceLT, Int.reduceNeg, Nat.reducePow, Nat.reduceMod, ByteArray.size]))
      refine goC_h [(1000, 0)] 2000 hleft (by simp) (by simp) ?_ ?_ ?_
      iterate 2 (case _ => simp (disch := omega) only [wP, wZ, undef, UInt8.reduceToNat, Nat.reduceOr, Nat.reduceAnd, Nat.reduceXor, Nat.reduceDiv, if_pos, if_neg, aStore, frz, AV.flat, ↓reduceIte, ne_eq, reduceCtorEq, Int.reduceToNat, Nat.reduceEqDiff, Nat.reduceAdd, Nat.reduceSub, Nat.reduceMul, Int.reduceAdd, Int.reduceMul, Int.reduceSub, Int.reduceLT, Int.reduceLE, Int.reduceEq, Int.reduceNe, Nat.reduceLeDiff, Nat.reduceLT, Int.reduceNeg, Nat.reducePow, Nat.reduceMod, ByteArray.size, rdR])
      repeat (first | refine wA ?_ | refine wB ?_ | refine wC rfl ?_ | refine wD rfl ?_ | refine wE ?_ | refine wF (by omega) ?_ | ((first | refine wG ?_ | refine wH ?_ | refine wI ?_ | refine wJ ?_ | refine wK ?_ | refine wL ?_); simp (disch := omega) only [wP, wZ, undef, UInt8.reduceToNat, Nat.reduceOr, Nat.reduceAnd, Nat.reduceXor, Nat.reduceDiv, if_pos, if_neg, aStore, frz, AV.flat, ↓reduceIte, ne_eq, reduceCtorEq, Int.reduceToNat, Nat.reduceEqDiff, Nat.reduceAdd, Nat.reduceSub, Nat.reduceMul, Int.reduceAdd, Int.reduceMul, Int.reduceSub, Int.reduceLT, Int.reduceLE, Int.reduceEq, Int.reduceNe, Nat.reduceLeDiff, Nat.reduceLT, Int.reduceNeg, Nat.reducePow, Nat.reduceMod, ByteArray.size, d0, rdR, iR]))
      refine goC_h [(1000, 0)] 3000 hbit (by simp) (by simp) ?_ ?_ ?_
      iterate 2 (case _ => simp (disch := omega) only [wP, wZ, undef, UInt8.reduceToNat, Nat.reduceOr, Nat.reduceAnd, Nat.reduceXor, Nat.reduceDiv, if_pos, if_neg, aStore, frz, AV.flat, ↓reduceIte, ne_eq, reduceCtorEq, Int.reduceToNat, Nat.reduceEqDiff, Nat.reduceAdd, Nat.reduceSub, Nat.reduceMul, Int.reduceAdd, Int.reduceMul, Int.reduceSub, Int.reduceLT, Int.reduceLE, Int.reduceEq, Int.reduceNe, Nat.reduceLeDiff, Nat.reduceLT, Int.reduceNeg, Nat.reducePow, Nat.reduceMod, ByteArray.size, rdR])
      repeat (first | refine wA ?_ | refine wB ?_ | refine wC rfl ?_ | refine wD rfl ?_ | refine wE ?_ | refine wF (by omega) ?_ | ((first | refine wG ?_ | refine wH ?_ | refine wI ?_ | refine wJ ?_ | refine wK ?_ | refine wL ?_); simp (disch := omega) only [wP, wZ, undef, UInt8.reduceToNat, Nat.reduceOr, Nat.reduceAnd, Nat.reduceXor, Nat.reduceDiv, if_pos, if_neg, aStore, frz, AV.flat, ↓reduceIte, ne_eq, reduceCtorEq, Int.reduceToNat, Nat.reduceEqDiff, Nat.reduceAdd, Nat.reduceSub, Nat.reduceMul, Int.reduceAdd, Int.reduceMul, Int.reduceSub, Int.reduceLT, Int.reduceLE, Int.reduceEq, Int.reduceNe, Nat.reduceLeDiff, Nat.reduceLT, Int.reduceNeg, Nat.reducePow, Nat.reduceMod, ByteArray.size, rdR, iR, Nat.pow_one, hor]))
      by_cases c1 : kraft l ≤ w * 2 ^ (15 - (n + 1))
      · rw [if_pos c1] at hx
        have dz : decide (w * 2 ^ (15 - (n + 1)) < kraft l) = false := decide_eq_false (by omega)
        rw [dz] at hbeg
        subst hx
        refine goC_p _ (.inl ⟨by simp only [AV.free, AV.free.freeL, free_trR, Bool.and_self], hbeg⟩) ?_
        repeat (first | refine wA ?_ | refine wB ?_ | refine wC rfl ?_ | refine wD rfl ?_ | refine wE ?_ | refine wF (by omega) ?_ | ((first | refine wG ?_ | refine wH ?_ | refine wI ?_ | refine wJ ?_ | refine wK ?_ | refine wL ?_); simp (disch := omega) only [wP, wZ, undef, UInt8.reduceToNat, Nat.reduceOr, Nat.reduceAnd, Nat.reduceXor, Nat.reduceDiv, if_pos, if_neg, aStore, frz, AV.flat, ↓reduceIte, ne_eq, reduceCtorEq, Int.reduceToNat, Nat.reduceEqDiff, Nat.reduceAdd, Nat.reduceSub, Nat.reduceMul, Int.reduceAdd, Int.reduceMul, Int.reduceSub, Int.reduceLT, Int.reduceLE, Int.reduceEq, Int.reduceNe, Nat.reduceLeDiff, Nat.reduceLT, Int.reduceNeg, Nat.reducePow, Nat.reduceMod, ByteArray.size, rdR, iR]))
        refine ⟨?_, by omega⟩
        rw [Int.add_assoc]
      · rw [if_neg c1] at hx
        have dz : decide (w * 2 ^ (15 - (n + 1)) < kraft l) = true := decide_eq_true (by omega)
        rw [dz] at hbeg
        obtain ⟨F, hFd⟩ : ∃ F, F = fr l (n + 1) := ⟨_, rfl⟩
        have hgF := trR_fr (l := l) (n := n + 1) (by omega)
        have hgS := trR_sym (l := l) (n := n + 1) (by omega)
        have hlS := length_symsF (l := l) (n := n + 1)
        have hcl := cn_le (l := l) (n := n + 1)
        rw [← hFd] at hgF hfw hfl hx
        have hsub : (w : Int) - (F : Int) = ((w - F : Nat) : Int) := by omega
        obtain ⟨S, hS⟩ : ∃ S, S = syms l l.length (n + 1) := ⟨_, rfl⟩
        obtain ⟨c, hc⟩ : ∃ c, c = cn l (n + 1) := ⟨_, rfl⟩
        rw [← hS] at hgS hlS hx
        rw [← hc] at hgS hlS hcl hx
        obtain ⟨j, hj⟩ : ∃ j, j = w - F := ⟨_, rfl⟩
        rw [← hj] at hsub hx
        refine goC_p _ (.inl ⟨by simp only [AV.free, AV.free.freeL, free_trR, Bool.and_self], hbeg⟩) ?_
        by_cases c2 : j < c
        · rw [if_pos c2] at hx
          have d2 : decide ((j : Int) < (c : Int)) = true := decide_eq_true (by omega)
          subst hx
          repeat (first | refine wA ?_ | refine wB ?_ | refine wC rfl ?_ | refine wD rfl ?_ | refine wE ?_ | refine wF (by omega) ?_ | ((first | refine wG ?_ | refine wH ?_ | refine wI ?_ | refine wJ ?_ | refine wK ?_ | refine wL ?_); simp (disch := omega) only [wP, wZ, undef, UInt8.reduceToNat, Nat.reduceOr, Nat.reduceAnd, Nat.reduceXor, Nat.reduceDiv, if_pos, if_neg, aStore, frz, AV.flat, ↓reduceIte, ne_eq, reduceCtorEq, Int.reduceToNat, Nat.reduceEqDiff, Nat.reduceAdd, Nat.reduceSub, Nat.reduceMul, Int.reduceAdd, Int.reduceMul, Int.reduceSub, Int.reduceLT, Int.reduceLE, Int.reduceEq, Int.reduceNe, Nat.reduceLeDiff, Nat.reduceLT, Int.reduceNeg, Nat.reducePow, Nat.reduceMod, ByteArray.size, rdR, iR, length_trR, hgF, hgS, hlS, hsub, d2]))
          refine ⟨?_, by omega⟩
          rw [Int.add_assoc]
        · rw [if_neg c2] at hx
          have d2 : decide ((j : Int) < (c : Int)) = false := decide_eq_false (by omega)
          have hnx : fr l (n + 1 + 1) ≤ 2 * w := by
            rw [fr, ← hFd, ← hc]; omega
          repeat (first | refine wA ?_ | refine wB ?_ | refine wC rfl ?_ | refine wD rfl ?_ | refine wE ?_ | refine wF (by omega) ?_ | ((first | refine wG ?_ | refine wH ?_ | refine wI ?_ | refine wJ ?_ | refine wK ?_ | refine wL ?_); simp (disch := omega) only [wP, wZ, undef, UInt8.reduceToNat, Nat.reduceOr, Nat.reduceAnd, Nat.reduceXor, Nat.reduceDiv, if_pos, if_neg, aStore, frz, AV.flat, ↓reduceIte, ne_eq, reduceCtorEq, Int.reduceToNat, Nat.reduceEqDiff, Nat.reduceAdd, Nat.reduceSub, Nat.reduceMul, Int.reduceAdd, Int.reduceMul, Int.reduceSub, Int.reduceLT, Int.reduceLE, Int.reduceEq, Int.reduceNe, Nat.reduceLeDiff, Nat.reduceLT, Int.reduceNeg, Nat.reducePow, Nat.reduceMod, ByteArray.size, rdR, iR, length_trR, hgF, hgS, hlS, hsub, d2]))
          refine At.of (n + 1, w) ⟨by simp only; omega, by simp only; omega, hwl, hnx, by simp only; rw [show 15 - (n + 1) = f by omega]; exact hx⟩ (by simp only; omega) rfl rfl ?_ ?_ ?_
          · simp only; omega
          iterate 2 (case _ => simp (disch := omega) only [wP, wZ, undef, UInt8.reduceToNat, Nat.reduceOr, Nat.reduceAnd, Nat.reduceXor, Nat.reduceDiv, if_pos, if_neg, aStore, frz, AV.flat, ↓reduceIte, ne_eq, reduceCtorEq, Int.reduceToNat, Nat.reduceEqDiff, Nat.reduceAdd, Nat.reduceSub, Nat.reduceMul, Int.reduceAdd, Int.reduceMul, Int.reduceSub, Int.reduceLT, Int.reduceLE, Int.reduceEq, Int.reduceNe, Nat.reduceLeDiff, Nat.reduceLT, Int.reduceNeg, Nat.reducePow, Nat.reduceMod, ByteArray.size, rdR, Int.add_assoc])
  · simp only [decide_eq_false_iff_not] at h
    obtain rfl : n = 15 := by omega
    have hx : r = (0, 15, 3) := by rw [← hx]; rfl
    subst hx
    repeat (first | refine wA ?_ | refine wB ?_ | refine wC rfl ?_ | refine wD rfl ?_ | refine wE ?_ | refine wF (by omega) ?_ | ((first | refine wG ?_ | refine wH ?_ | refine wI ?_ | refine wJ ?_ | refine wK ?_ | refine wL ?_); simp (disch := omega) only [wP, wZ, undef, UInt8.reduceToNat, Nat.reduceOr, Nat.reduceAnd, Nat.reduceXor, Nat.reduceDiv, if_pos, if_neg, aStore, frz, AV.flat, ↓reduceIte, ne_eq, reduceCtorEq, Int.reduceToNat, Nat.reduceEqDiff, Nat.reduceAdd, Nat.reduceSub, Nat.reduceMul, Int.reduceAdd, Int.reduceMul, Int.reduceSub, Int.reduceLT, Int.reduceLE, Int.reduceEq, Int.reduceNe, Nat.reduceLeDiff, Nat.reduceLT, Int.reduceNeg, Nat.reducePow, Nat.reduceMod, ByteArray.size, rdR, iR]))
    all_goals trace_state
theorem ren_tree {ρ : Nat → Nat → Nat × Nat} {l : List Nat} : ren ρ (.fp (.agg (trR l)) 0) = .fp (.agg (trR l)) 0 := ren_free ρ _ (by simp only [AV.free, free_trR])
theorem nxt_facts {l B : List Nat} : ∀ (f n v : Nat), n ≤ B.length → (nxt l B f n v).2.1 ≤ B.length ∧ ((nxt l B f n v).2.2 = 0 ∨ ((nxt l B f n v).2.2 = 2 ∧ (nxt l B f n v).2.1 = B.length) ∨ (nxt l B f n v).2.2 = 3)
  | 0, n, v, h => ⟨h, .inr (.inr rfl)⟩
  | f + 1, n, v, h => by
    rw [nxt]
    split
    · exact ⟨h, .inr (.inl ⟨rfl, by simp only; omega⟩)⟩
    · split
      · exact ⟨by simp only; omega, .inr (.inr rfl)⟩
      · split
        · exact ⟨by simp only; omega, .inl rfl⟩
        · exact nxt_facts f (n + 1) _ (by omega)
end Go.Proofs.YtbcncdpaigljeaaGreatDoor.Aw
namespace Go.Proofs.YtbcncdpaigljeaaGreatDoor.Aw
open Go
set_option linter.unusedSimpArgs false
set_option linter.unusedVariables false
inductive BT (α : Type) where
  | ret (a : α) : BT α
  | err (e : Nat) : BT α
  | pos (k : Nat → BT α) : BT α
  | bit (k : Nat → BT α) : BT α
inductive BR (α : Type) where
  | ok (a : α) (i : Nat) : BR α
  | no (e : Nat) : BR α
def BR.bnd {α β : Type} : BR α → (α → Nat → BR β) → BR β
  | .ok a i, f => f a i
  | .no e, _ => .no e
def BT.bnd {α β : Type} : BT α → (α → BT β) → BT β
  | .ret a, f => f a
  | .err e, _ => .err e
  | .pos k, f => .pos fun i => (k i).bnd f
  | .bit k, f => .bit fun x => (k x).bnd f
def BT.run {α : Type} (B : List Nat) : BT α → Nat → BR α
  | .ret a, i => .ok a i
  | .err e, _ => .no e
  | .pos k, i => (k i).run B i
  | .bit k, i => if i < B.length then (k (B.getD i 0)).run B (i + 1) else .no 2
theorem run_bnd {α β : Type} {B : List Nat} {f : α → BT β} : ∀ {t : BT α} {i : Nat}, (t.bnd f).run B i = (t.run B i).bnd fun a j => (f a).run B j
  | .ret _, _ => rfl
  | .err _, _ => rfl
  | .pos k, i => by simp only [BT.bnd, BT.run]; exact run_bnd
  | .bit k, i => by
    simp only [BT.bnd, BT.run]
    split
    · exact run_bnd
    · rfl
theorem run_ok {α : Type} {B : List Nat} {a : α} {j : Nat} : ∀ {t : BT α} {i : Nat}, t.run B i = .ok a j → i ≤ j ∧ (i ≤ B.length → j ≤ B.length)
  | .ret _, i, h => by simp only [BT.run, BR.ok.injEq] at h; omega
  | .err _, _, h => by simp [BT.run] at h
  | .pos k, i, h => by simp only [BT.run] at h; exact run_ok h
  | .bit k, i, h => by
    simp only [BT.run] at h
    split at h
    · have := run_ok h; exact ⟨by omega, fun _ => this.2 (by omega)⟩
    · cases h
def numT : Nat → BT Nat
  | 0 => .ret 0
  | n + 1 => .bit fun x => (numT n).bnd fun y => .ret (x + 2 * y)
theorem run_numT {B : List Nat} : ∀ {n i : Nat}, i ≤ B.length → (numT n).run B i = if i + n ≤ B.length then .ok (numB ((B.drop i).take n)) (i + n) else .no 2
  | 0, i, h => by rw [if_pos (by omega)]; rfl
  | n + 1, i, h => by
    simp only [numT, BT.run, run_bnd]
    by_cases c : i < B.length
    · rw [if_pos c, run_numT (by omega)]
      by_cases c2 : i + (n + 1) ≤ B.length
      · rw [if_pos (by omega), if_pos c2]
        simp only [BR.bnd, BT.run]
        have : B.drop i = B.getD i 0 :: B.drop (i + 1) := by
          rw [List.drop_eq_getElem_cons c]; simp [List.getD, List.getElem?_eq_getElem c]
        rw [this, List.take_succ_cons, numB]
        congr 1
        omega
      · rw [if_neg (by omega), if_neg c2]; rfl
    · rw [if_neg c, if_neg (by omega)]
theorem numAt_eq {b : List UInt8} {i n : Nat} (h : i + n ≤ 8 * b.length) : numB (((bitsL b).drop i).take n) = numAt b i n := by
  unfold numAt
  congr 1
  apply List.ext_getElem?
  intro k
  rw [List.getElem?_take]
  by_cases hk : k < n
  · have hj : i + k < 8 * b.length := by omega
    have hj2 : i + k < (bitsL b).length := by rw [length_bitsL]; exact hj
    rw [if_pos hk, List.getElem?_drop, List.getElem?_map, List.getElem?_range hk, List.getElem?_eq_getElem hj2]
    simp only [Option.map_some, Option.some.injEq]
    rw [← bitsL_get hj]
    simp [List.getD, List.getElem?_eq_getElem hj2]
  · rw [if_neg hk, List.getElem?_eq_none (by simp; omega)]
theorem run_num {b : List UInt8} {i n : Nat} (h : i ≤ 8 * b.length) : (numT n).run (bitsL b) i = if i + n ≤ 8 * b.length then .ok (numAt b i n) (i + n) else .no 2 := by
  rw [run_numT (by rw [length_bitsL]; exact h), length_bitsL]
  split
  · rw [numAt_eq (by assumption)]
  · rfl
def nxtT (l : List Nat) : Nat → Nat → Nat → BT Nat
  | 0, _, _ => .err 3
  | f + 1, n, v => .bit fun x =>
    if kraft l ≤ (2 * v + x) * 2 ^ (15 - (n + 1)) then .err 3 else
    if 2 * v + x - fr l (n + 1) < cn l (n + 1) then .ret ((syms l l.length (n + 1)).getD (2 * v + x - fr l (n + 1)) 0) else
    nxtT l f (n + 1) (2 * v + x)
def nxtR (i : Nat) (r : Nat × Nat × Nat) : BR Nat := if r.2.2 = 0 then .ok r.1 (i + r.2.1) else .no r.2.2
theorem run_nxtT {l B : List Nat} {i : Nat} : ∀ {f n v : Nat}, (nxtT l f n v).run B (i + n) = nxtR i (nxt l (B.drop i) f n v)
  | 0, n, v => rfl
  | f + 1, n, v => by
    have hg : (B.drop i).getD n 0 = B.getD (i + n) 0 := by simp [List.getD]
    rw [nxt, hg]
    simp only [nxtT, BT.run]
    by_cases c : i + n < B.length
    · rw [if_pos c, if_neg (show ¬ (B.drop i).length ≤ n by rw [List.length_drop]; omega)]
      split
      · rfl
      · split
        · simp only [BT.run, nxtR, if_true, Nat.add_assoc]
        · exact run_nxtT (n := n + 1)
    · rw [if_neg c, if_pos (show (B.drop i).length ≤ n by rw [List.length_drop]; omega)]; rfl
theorem run_nxt {l B : List Nat} {i : Nat} : (nxtT l 15 0 0).run B i = nxtR i (nxt l (B.drop i) 15 0 0) := run_nxtT (n := 0)
def plusT (v n : Nat) : BT Nat := (numT n).bnd fun x => .ret (v + x)
def lenT (s : Nat) : BT Nat := if 29 ≤ s then .err 3 else if s = 28 then .ret 258 else if s < 8 then .ret (3 + s) else plusT (3 + (4 + s % 4) * 2 ^ (s / 4 - 1)) (s / 4 - 1)
def disT (s : Nat) : BT Nat := if 30 ≤ s then .err 3 else if s < 4 then .ret (1 + s) else plusT (1 + (2 + s % 2) * 2 ^ (s / 2 - 1)) (s / 2 - 1)
theorem plusT_le {B : List Nat} (hB : ∀ x ∈ B, x < 2) {v n i a j : Nat} (h : (plusT v n).run B i = .ok a j) : a < v + 2 ^ n := by
  rw [plusT, run_bnd] at h
  have key : ∀ (n i a j : Nat), (numT n).run B i = .ok a j → a < 2 ^ n := by
    intro n
    induction n with
    | zero => intro i a j h; simp only [numT, BT.run, BR.ok.injEq] at h; omega
    | succ n ih =>
      intro i a j h
      simp only [numT, BT.run, run_bnd] at h
      split at h
      · rename_i hi
        have hx : B.getD i 0 < 2 := by
          have : B.getD i 0 = B[i] := by simp [List.getD, List.getElem?_eq_getElem hi]
          rw [this]; exact hB _ (List.getElem_mem hi)
        cases hr : (numT n).run B (i + 1) with
        | no e => rw [hr] at h; cases h
        | ok y k =>
          rw [hr] at h
          have := ih _ _ _ hr
          simp only [BR.bnd, BT.run, BR.ok.injEq] at h
          rw [Nat.pow_succ]; omega
      · cases h
  cases hr : (numT n).run B i with
  | no e => rw [hr] at h; cases h
  | ok y k =>
    rw [hr] at h
    have := key _ _ _ _ hr
    simp only [BR.bnd, BT.run, BR.ok.injEq] at h
    omega
theorem plusT_ge {B : List Nat} {v n i a j : Nat} (h : (plusT v n).run B i = .ok a j) : v ≤ a := by
  rw [plusT, run_bnd] at h
  cases hr : (numT n).run B i with
  | no e => rw [hr] at h; cases h
  | ok y k => rw [hr] at h; simp only [BR.bnd, BT.run, BR.ok.injEq] at h; omega
theorem lenT_le {b : List UInt8} {s i a j : Nat} (h : (lenT s).run (bitsL b) i = .ok a j) : a ≤ 258 := by
  unfold lenT at h
  split at h
  · cases h
  · split at h
    · simp only [BT.run, BR.ok.injEq] at h; omega
    · split at h
      · simp only [BT.run, BR.ok.injEq] at h; omega
      · have := plusT_le bitsL_lt h
        rename_i h1 h2 h3
        have hk : s / 4 - 1 = 1 ∨ s / 4 - 1 = 2 ∨ s / 4 - 1 = 3 ∨ s / 4 - 1 = 4 ∨ s / 4 - 1 = 5 := by omega
        have hm : s % 4 < 4 := by omega
        generalize s % 4 = m at *
        generalize s / 4 - 1 = k at *
        rcases hk with rfl | rfl | rfl | rfl | rfl <;> omega
theorem disT_le {b : List UInt8} {s i a j : Nat} (h : (disT s).run (bitsL b) i = .ok a j) : 1 ≤ a ∧ a ≤ 32768 := by
  unfold disT at h
  split at h
  · cases h
  · split at h
    · simp only [BT.run, BR.ok.injEq] at h; omega
    · have h2 := plusT_le bitsL_lt h
      have h3 : 1 ≤ a := by
        rw [plusT, run_bnd] at h
        cases hr : (numT (s / 2 - 1)).run (bitsL b) i with
        | no e => rw [hr] at h; cases h
        | ok y k => rw [hr] at h; simp only [BR.bnd, BT.run, BR.ok.injEq] at h; omega
      refine ⟨h3, ?_⟩
      have hk : 2 ^ (s / 2 - 1) ≤ 8192 := two_pow_le (n := s / 2 - 1) (m := 13) (by omega)
      have hm : s % 2 < 2 := by omega
      generalize s % 2 = m at *
      generalize 2 ^ (s / 2 - 1) = p at *
      obtain rfl | rfl : m = 0 ∨ m = 1 := by omega
      · omega
      · omega
def cpy (out : List UInt8) (k : Nat) : Nat → List UInt8
  | 0 => out
  | n + 1 => cpy (out ++ [out.getD (out.length - k) 0]) k n
theorem length_cpy {k : Nat} : ∀ {n : Nat} {out : List UInt8}, (cpy out k n).length = out.length + n
  | 0, _ => rfl
  | n + 1, out => by rw [cpy, length_cpy, List.length_append, List.length_singleton]; omega
theorem cpy_snoc {k : Nat} : ∀ {n : Nat} {out : List UInt8}, cpy out k (n + 1) = cpy out k n ++ [(cpy out k n).getD ((cpy out k n).length - k) 0]
  | 0, out => rfl
  | n + 1, out => by
    show cpy (out ++ [out.getD (out.length - k) 0]) k (n + 1) = _
    rw [cpy_snoc]; rfl
def runT (most : Nat) (d : List Nat) (out : List UInt8) (s : Nat) : BT (List UInt8) :=
  (lenT s).bnd fun n => (nxtT d 15 0 0).bnd fun t => (disT t).bnd fun k =>
    if out.length < k then .err 3 else if most < out.length + n then .err 4 else .ret (cpy out k n)
def symT (l d : List Nat) (most : Nat) : Nat → List UInt8 → BT (List UInt8)
  | 0, _ => .err 2
  | f + 1, out => (nxtT l 15 0 0).bnd fun s =>
    if s < 256 then (if most ≤ out.length then .err 4 else symT l d most f (out ++ [UInt8.ofNat s])) else
    if s = 256 then .ret out else (runT most d out (s - 257)).bnd fun o => symT l d most f o
def bytT : Nat → BT (List UInt8)
  | 0 => .ret []
  | n + 1 => (numT 8).bnd fun x => (bytT n).bnd fun r => .ret (UInt8.ofNat x :: r)
def stoT (most : Nat) (out : List UInt8) : BT (List UInt8) :=
  .pos fun i => (numT ((i + 7) / 8 * 8 - i)).bnd fun _ => (numT 16).bnd fun n => (numT 16).bnd fun m =>
    if n + m ≠ 65535 then .err 3 else (bytT n).bnd fun bs => if most < out.length + n then .err 4 else .ret (out ++ bs)
def tells : List Nat := [16, 17, 18, 0, 8, 7, 9, 6, 10, 5, 11, 4, 12, 3, 13, 2, 14, 1, 15]
def telT : Nat → Nat → List Nat → BT (List Nat)
  | 0, _, l => .ret l
  | n + 1, k, l => (numT 3).bnd fun x => telT n (k + 1) (l.set (tells.getD k 0) x)
def lsV (s : Nat) (l : List Nat) : Nat := if s = 16 then l.getD (l.length - 1) 0 else if s = 17 ∨ s = 18 then 0 else s
def lsN (s : Nat) : Nat := if s = 16 ∨ s = 17 then 3 else if s = 18 then 11 else 1
def lsB (s : Nat) : Nat := if s = 16 then 2 else if s = 17 then 3 else if s = 18 then 7 else 0
def lsT (th : List Nat) (n : Nat) : Nat → List Nat → BT (List Nat)
  | 0, _ => .err 3
  | f + 1, l => if n ≤ l.length then .ret l else (nxtT th 15 0 0).bnd fun s =>
    if s = 16 ∧ l = [] then .err 3 else (plusT (lsN s) (lsB s)).bnd fun t => if n < l.length + t then .err 3 else lsT th n f (l ++ List.replicate t (lsV s l))
def fulN (l : List Nat) : Bool := decide (l.length ≤ 320 ∧ kraft l = 32768)
def fewN (l : List Nat) : Bool := decide (l.sum ≤ 1) || fulN l
def codN (l d : List Nat) : Bool := decide (l.getD 256 0 ≠ 0) && fulN l && fewN d
def tlrT (n : Nat) : BT (List Nat) := (telT n 0 (List.replicate 19 0)).bnd fun th => if fulN th = true then .ret th else .err 3
def tolT : BT (List Nat × List Nat) :=
  (numT 14).bnd fun c => if 286 < c % 32 + 257 ∨ 30 < c / 32 % 32 + 1 then .err 3 else
    (tlrT (c / 1024 + 4)).bnd fun th => (lsT th (c % 32 + 257 + (c / 32 % 32 + 1)) 400 []).bnd fun ls =>
      if codN (ls.take (c % 32 + 257)) (ls.drop (c % 32 + 257)) = true then .ret (ls.take (c % 32 + 257), ls.drop (c % 32 + 257)) else .err 3
def fixL : List Nat := List.replicate 144 8 ++ (List.replicate 112 9 ++ (List.replicate 24 7 ++ List.replicate 8 8))
def fixD : List Nat := List.replicate 32 5
def bodT (most F : Nat) (out : List UInt8) (h : Nat) : BT (List UInt8) :=
  if h = 0 then stoT most out else if h = 1 then symT fixL fixD most F out else
  if h = 2 then tolT.bnd fun p => symT p.1 p.2 most F out else .err 3
def blkT (most F : Nat) (out : List UInt8) : BT (Bool × List UInt8) :=
  (numT 3).bnd fun h => (bodT most F out (h / 2)).bnd fun o => .ret (decide (h % 2 = 1), o)
def infT (most F : Nat) : Nat → List UInt8 → BT (List UInt8)
  | 0, _ => .err 2
  | f + 1, out => (blkT most F out).bnd fun p => if p.1 = true then .ret p.2 else infT most F f p.2
def gotR : BR (List UInt8) → List UInt8 × Nat × Nat
  | .ok o j => (o, (j + 7) / 8, 0)
  | .no e => ([], 0, e)
def infR (F : Nat) (b : List UInt8) (most : Nat) : List UInt8 × Nat × Nat := gotR ((infT most F F []).run (bitsL b) 0)
theorem run_bytT {b : List UInt8} : ∀ {n j : Nat}, j ≤ b.length → (bytT n).run (bitsL b) (8 * j) = if j + n ≤ b.length then .ok ((b.drop j).take n) (8 * (j + n)) else .no 2
  | 0, j, h => by rw [if_pos (by omega)]; rfl
  | n + 1, j, h => by
    simp only [bytT, run_bnd]
    rw [run_num (by omega)]
    by_cases c : j < b.length
    · rw [if_pos (by omega)]
      simp only [BR.bnd, run_bnd]
      rw [show 8 * j + 8 = 8 * (j + 1) by omega, run_bytT (by omega)]
      by_cases c2 : j + (n + 1) ≤ b.length
      · rw [if_pos (by omega), if_pos c2]
        simp only [BR.bnd, BT.run]
        have e : b.drop j = b.getD j 0 :: b.drop (j + 1) := by
          rw [List.drop_eq_getElem_cons c]; simp [List.getD, List.getElem?_eq_getElem c]
        have e2 : UInt8.ofNat (numAt b (8 * j) 8) = b.getD j 0 := by
          have h1 : (bitsL b).drop (8 * j) = bitsB (b.getD j 0) ++ bitsL (b.drop (j + 1)) := by
            conv => lhs; rw [← List.take_append_drop j b, bitsL_append]
            rw [List.drop_append, length_bitsL, List.length_take, Nat.min_eq_left (by omega), Nat.sub_self, List.drop_zero, List.drop_of_length_le (by rw [length_bitsL, List.length_take]; omega), List.nil_append, e]
            simp [bitsL]
          rw [← numAt_eq (by omega), h1, List.take_append_of_le_length (by rw [length_bitsB]; exact Nat.le_refl _), List.take_of_length_le (by rw [length_bitsB]; exact Nat.le_refl _)]
          have := (b.getD j 0).toNat_lt
          have h2 : numB (bitsB (b.getD j 0)) = (b.getD j 0).toNat := numB_bitsB
          rw [h2]; exact UInt8.ofNat_toNat
        rw [e2, e, List.take_succ_cons]
        congr 1
        omega
      · rw [if_neg (by omega), if_neg c2]
    · rw [if_neg (by omega), if_neg (by omega)]; rfl
where
  numB_bitsB {c : UInt8} : numB (bitsB c) = c.toNat := by
    have := c.toNat_lt
    simp only [bitsB, show List.range 8 = [0, 1, 2, 3, 4, 5, 6, 7] from rfl, List.map_cons, List.map_nil, numB]
    omega
theorem run_stoT {b : List UInt8} {most : Nat} {out : List UInt8} {i : Nat} (hi : i ≤ 8 * b.length) :
    (stoT most out).run (bitsL b) i =
      if 8 * b.length < (i + 7) / 8 * 8 + 16 then .no 2 else if 8 * b.length < (i + 7) / 8 * 8 + 32 then .no 2 else
      if numAt b ((i + 7) / 8 * 8) 16 + numAt b ((i + 7) / 8 * 8 + 16) 16 ≠ 65535 then .no 3 else
      if b.length < (i + 7) / 8 + 4 + numAt b ((i + 7) / 8 * 8) 16 then .no 2 else
      if most < out.length + numAt b ((i + 7) / 8 * 8) 16 then .no 4 else
      .ok (out ++ (b.drop ((i + 7) / 8 + 4)).take (numAt b ((i + 7) / 8 * 8) 16)) (8 * ((i + 7) / 8 + 4 + numAt b ((i + 7) / 8 * 8) 16)) := by
  obtain ⟨q, hq⟩ : ∃ q, q = (i + 7) / 8 := ⟨_, rfl⟩
  rw [← hq]
  simp only [stoT, BT.run, run_bnd]
  rw [← hq, run_num hi, if_pos (by omega)]
  simp only [BR.bnd, run_bnd]
  rw [show i + (q * 8 - i) = q * 8 by omega, run_num (by omega)]
  by_cases c1 : 8 * b.length < q * 8 + 16
  · rw [if_neg (by omega), if_pos c1]
  · rw [if_pos (by omega), if_neg c1]
    simp only [BR.bnd, run_bnd]
    rw [run_num (by omega)]
    by_cases c2 : 8 * b.length < q * 8 + 32
    · rw [if_neg (by omega), if_pos c2]
    · rw [if_pos (by omega), if_neg c2]
      simp only [BR.bnd]
      split
      · rfl
      · rw [run_bnd, show q * 8 + 16 + 16 = 8 * (q + 4) by omega, run_bytT (by omega)]
        by_cases c3 : b.length < q + 4 + numAt b (q * 8) 16
        · rw [if_neg (by omega), if_pos c3]; rfl
        · rw [if_pos (by omega), if_neg c3]
          simp only [BR.bnd]
          split
          · rfl
          · rfl
inductive BT.safe {α : Type} : BT α → Prop where
  | ret (a : α) : BT.safe (.ret a)
  | err (e : Nat) (h : e ≠ 0 ∧ e ≤ 10) : BT.safe (.err e)
  | pos (k : Nat → BT α) (h : ∀ i, BT.safe (k i)) : BT.safe (.pos k)
  | bit (k : Nat → BT α) (h : ∀ x, BT.safe (k x)) : BT.safe (.bit k)
theorem safe_bnd {α β : Type} {f : α → BT β} {t : BT α} (h : t.safe) (h2 : ∀ a, (f a).safe) : (t.bnd f).safe := by
  induction h with
  | ret a => exact h2 a
  | err e h => exact .err e h
  | pos k _ ih => exact .pos _ ih
  | bit k _ ih => exact .bit _ ih
theorem safe_run {α : Type} {B : List Nat} {e : Nat} {t : BT α} (h : t.safe) : ∀ {i : Nat}, t.run B i = .no e → e ≠ 0 ∧ e ≤ 10 := by
  induction h with
  | ret a => intro i h; simp [BT.run] at h
  | err e h => intro i h2; simp only [BT.run, BR.no.injEq] at h2; subst h2; exact h
  | pos k _ ih => intro i h2; simp only [BT.run] at h2; exact ih _ h2
  | bit k _ ih =>
    intro i h2
    simp only [BT.run] at h2
    split at h2
    · exact ih _ h2
    · simp only [BR.no.injEq] at h2; omega
theorem safe_ret {α : Type} {a : α} : (BT.ret a).safe := .ret a
theorem safe_ite {α : Type} {c : Prop} [Decidable c] {a b : BT α} (ha : a.safe) (hb : b.safe) : (if c then a else b).safe := by split <;> assumption
theorem safe_err {α : Type} {e : Nat} (h : e ≠ 0 ∧ e ≤ 10) : (BT.err e : BT α).safe := .err e h
theorem safe_num : ∀ {n : Nat}, (numT n).safe
  | 0 => .ret _
  | _ + 1 => .bit _ fun _ => safe_bnd safe_num fun _ => .ret _
theorem safe_nxt {l : List Nat} : ∀ {f n v : Nat}, (nxtT l f n v).safe
  | 0, _, _ => safe_err (by omega)
  | _ + 1, _, _ => .bit _ fun _ => safe_ite (safe_err (by omega)) (safe_ite safe_ret safe_nxt)
theorem safe_plus {v n : Nat} : (plusT v n).safe := safe_bnd safe_num fun _ => safe_ret
theorem safe_len {s : Nat} : (lenT s).safe := safe_ite (safe_err (by omega)) (safe_ite safe_ret (safe_ite safe_ret safe_plus))
theorem safe_dis {s : Nat} : (disT s).safe := safe_ite (safe_err (by omega)) (safe_ite safe_ret safe_plus)
theorem safe_runT {most s : Nat} {d : List Nat} {out : List UInt8} : (runT most d out s).safe := by
  unfold runT
  exact safe_bnd safe_len fun _ => safe_bnd safe_nxt fun _ => safe_bnd safe_dis fun _ => safe_ite (safe_err (by omega)) (safe_ite (safe_err (by omega)) safe_ret)
theorem safe_sym {l d : List Nat} {most : Nat} : ∀ (f : Nat) (out : List UInt8), (symT l d most f out).safe := by
  intro f
  induction f with
  | zero => intro out; exact safe_err (by omega)
  | succ f ih =>
    intro out
    rw [symT]
    refine safe_bnd safe_nxt fun s => ?_
    by_cases h : s < 256
    · rw [if_pos h]
      by_cases h2 : most ≤ out.length
      · rw [if_pos h2]; exact safe_err (by omega)
      · rw [if_neg h2]; exact ih _
    · rw [if_neg h]
      by_cases h2 : s = 256
      · rw [if_pos h2]; exact safe_ret
      · rw [if_neg h2]; exact safe_bnd safe_runT fun o => ih o
theorem safe_byt : ∀ (n : Nat), (bytT n).safe := by
  intro n
  induction n with
  | zero => exact safe_ret
  | succ n ih => rw [bytT]; exact safe_bnd safe_num fun x => safe_bnd ih fun r => safe_ret
theorem safe_pos {α : Type} {k : Nat → BT α} (h : ∀ i, (k i).safe) : (BT.pos k).safe := .pos k h
theorem safe_sto {most : Nat} {out : List UInt8} : (stoT most out).safe := by
  unfold stoT
  refine safe_pos fun i => ?_
  refine safe_bnd safe_num fun _ => ?_
  refine safe_bnd safe_num fun n => ?_
  refine safe_bnd safe_num fun m => ?_
  by_cases h : n + m ≠ 65535
  · rw [if_pos h]; exact safe_err (by omega)
  · rw [if_neg h]
    refine safe_bnd (safe_byt n) fun bs => ?_
    by_cases h2 : most < out.length + n
    · rw [if_pos h2]; exact safe_err (by omega)
    · rw [if_neg h2]; exact safe_ret
theorem safe_tel : ∀ (n k : Nat) (l : List Nat), (telT n k l).safe := by
  intro n
  induction n with
  | zero => intro k l; exact safe_ret
  | succ n ih => intro k l; rw [telT]; exact safe_bnd safe_num fun x => ih _ _
theorem safe_ls {th : List Nat} {n : Nat} : ∀ (f : Nat) (l : List Nat), (lsT th n f l).safe := by
  intro f
  induction f with
  | zero => intro l; exact safe_err (by omega)
  | succ f ih =>
    intro l
    rw [lsT]
    by_cases h : n ≤ l.length
    · rw [if_pos h]; exact safe_ret
    · rw [if_neg h]
      refine safe_bnd safe_nxt fun s => ?_
      by_cases h2 : s = 16 ∧ l = []
      · rw [if_pos h2]; exact safe_err (by omega)
      · rw [if_neg h2]
        refine safe_bnd safe_plus fun t => ?_
        by_cases h3 : n < l.length + t
        · rw [if_pos h3]; exact safe_err (by omega)
        · rw [if_neg h3]; exact ih _
theorem safe_tlr {n : Nat} : (tlrT n).safe := by
  unfold tlrT
  refine safe_bnd (safe_tel _ _ _) fun th => ?_
  by_cases h2 : fulN th = true
  · rw [if_pos h2]; exact safe_ret
  · rw [if_neg h2]; exact safe_err (by omega)
theorem safe_tol : tolT.safe := by
  unfold tolT
  refine safe_bnd safe_num fun c => ?_
  by_cases h : 286 < c % 32 + 257 ∨ 30 < c / 32 % 32 + 1
  · rw [if_pos h]; exact safe_err (by omega)
  · rw [if_neg h]
    refine safe_bnd safe_tlr fun th => safe_bnd (safe_ls _ _) fun ls => ?_
    by_cases h3 : codN (ls.take (c % 32 + 257)) (ls.drop (c % 32 + 257)) = true
    · rw [if_pos h3]; exact safe_ret
    · rw [if_neg h3]; exact safe_err (by omega)
theorem safe_bod {most F h : Nat} {out : List UInt8} : (bodT most F out h).safe := by
  unfold bodT
  by_cases h0 : h = 0
  · rw [if_pos h0]; exact safe_sto
  · rw [if_neg h0]
    by_cases h1 : h = 1
    · rw [if_pos h1]; exact safe_sym _ _
    · rw [if_neg h1]
      by_cases h2 : h = 2
      · rw [if_pos h2]; exact safe_bnd safe_tol fun p => safe_sym _ _
      · rw [if_neg h2]; exact safe_err (by omega)
theorem safe_blk {most F : Nat} {out : List UInt8} : (blkT most F out).safe := by
  unfold blkT
  exact safe_bnd safe_num fun h => safe_bnd safe_bod fun o => safe_ret
theorem safe_inf {most F : Nat} : ∀ (f : Nat) (out : List UInt8), (infT most F f out).safe := by
  intro f
  induction f with
  | zero => intro out; exact safe_err (by omega)
  | succ f ih =>
    intro out
    rw [infT]
    refine safe_bnd safe_blk fun p => ?_
    by_cases h : p.1 = true
    · rw [if_pos h]; exact safe_ret
    · rw [if_neg h]; exact ih _
end Go.Proofs.YtbcncdpaigljeaaGreatDoor.Aw
