/- Parts of the proof of GzipPacks. -/
import Derived.Test.YtbcncdpaigljeaaGreatDoorQGzipPacksBD
import Derived.Test.YtbcncdpaigljeaaGreatDoorQGzipPacksBC
import Derived.Shelf.Strings.Search1
import Derived.Shelf.Bytes.IndexByte
import Derived.Test.YtbcncdpaigljeaaGreatDoorProg
import Derived.Test.YtbcncdpaigljeaaGreatDoorQGzipPacksBE
namespace Go.Proofs.YtbcncdpaigljeaaGreatDoor.Aw
open Go
set_option linter.unusedSimpArgs false
set_option linter.unusedVariables false
set_option linter.defProp false
def nA (n : Nat) : AV := .sc (.int .i64 (n : Int))
theorem getD_nA {l : List Nat} {i : Nat} (h : i < l.length) : (l.map nA).getD i .junk = .sc (.int .i64 ((l.getD i 0 : Nat) : Int)) := by
 simp [List.getD, List.getElem?_eq_getElem h, nA]
theorem getD_zA {l : List Int} {i : Nat} (h : i < l.length) : (l.map int).getD i .junk = .sc (.int .i64 (l.getD i 0)) := by
 simp [List.getD, List.getElem?_eq_getElem h, int]
theorem free_nA {l : List Nat} : AV.free.freeL (l.map nA) = true := freeL_iff.2 fun x hx => by
 obtain ⟨n, _, rfl⟩ := List.mem_map.1 hx; rfl
theorem free_zA {l : List Int} : AV.free.freeL (l.map int) = true := freeL_iff.2 fun x hx => by
 obtain ⟨n, _, rfl⟩ := List.mem_map.1 hx; rfl
theorem renL_nA {ρ : Nat → Nat → Nat × Nat} {l : List Nat} : ren.renL ρ (l.map nA) = l.map nA := renL_free ρ _ free_nA
theorem renL_zA {ρ : Nat → Nat → Nat × Nat} {l : List Int} : ren.renL ρ (l.map int) = l.map int := renL_free ρ _ free_zA
theorem take_nA {l : List Nat} {n : Nat} : (l.map nA).take n = (l.take n).map nA := by simp
theorem drop_nA {l : List Nat} {n : Nat} : (l.map nA).drop n = (l.drop n).map nA := by simp
theorem take_zA {l : List Int} {n : Nat} : (l.map int).take n = (l.take n).map int := by simp
theorem drop_zA {l : List Int} {n : Nat} : (l.map int).drop n = (l.drop n).map int := by simp
theorem fzoL_nA {id g : Nat} {nl : Bool} {cells : List AV} {l : List Nat} : fzo.fzoL id g nl cells (l.map nA) = l.map nA := fzoL_free _ free_nA
theorem fzoL_zA {id g : Nat} {nl : Bool} {cells : List AV} {l : List Int} : fzo.fzoL id g nl cells (l.map int) = l.map int := fzoL_free _ free_zA
theorem frzL_nA {hp : Hp} : ∀ {l : List Nat}, frz.frzL hp (l.map nA) = l.map nA
 | [] => rfl
 | c :: l => by simp only [List.map_cons, frz.frzL, frzL_nA]; rfl
theorem foL_b8 : ∀ {l : List UInt8}, AV.fo.foL (l.map u8) = true
 | [] => rfl
 | _ :: l => by simp only [List.map_cons, AV.fo.foL, u8, AV.fo, Bool.true_and]; exact foL_b8
theorem splice_nA {l : List Nat} {k x : Nat} (h : k < l.length) : (l.take k).map nA ++ (.sc (.int .i64 (x : Int)) :: (l.drop (k + 1)).map nA) = (l.set k x).map nA := by
 rw [List.set_eq_take_append_cons_drop, if_pos h]
 simp [nA]
theorem splice_zA {l : List Int} {k : Nat} {x : Int} (h : k < l.length) : (l.take k).map int ++ (.sc (.int .i64 x) :: (l.drop (k + 1)).map int) = (l.set k x).map int := by
 rw [List.set_eq_take_append_cons_drop, if_pos h]
 simp [int]
theorem outOf_nil {st : ASt} : outOf st [] = .tup [] := rfl
def iR := And.intro @outOf_nil <| And.intro (And.intro (And.intro @getD_nA @getD_zA) (And.intro @free_nA @free_zA)) (And.intro (And.intro (And.intro @renL_nA @renL_zA) (And.intro (And.intro @take_nA @drop_nA) (And.intro @take_zA @drop_zA))) (And.intro (And.intro @fzoL_nA @fzoL_zA) @frzL_nA))
def fR := And.intro (And.intro (And.intro @fzo_sc @fzo_w32) (And.intro @fzo_junk @fzo_sl)) (And.intro (And.intro (And.intro @fzo_fp @fzo_agg) (And.intro @fzo_tup @fzo_own)) (And.intro (And.intro (And.intro @fzo_op @fzoL_nil) (And.intro @fzoL_cons @fzoL_u8)) (And.intro @fzoL_32 (And.intro @fzH_at @AO_fzo))))
theorem snocD {α : Type} {l : List α} {k : Nat} {d : α} (h : k < l.length) : l.take (k + 1) = l.take k ++ [l.getD k d] := by
 rw [List.take_succ_eq_append_getElem h]; simp [List.getD, List.getElem?_eq_getElem h]
theorem wrap_u64_id3 {x : Int} (h1 : 0 ≤ x) (h2 : x < 18446744073709551616) : IntKind.u64.wrap x = x := by
 simp only [IntKind.wrap, IntKind.bits, IntKind.signed]
 simp
 omega
theorem two_pow_le {n m : Nat} (h : n ≤ m) : 2 ^ n ≤ 2 ^ m := Nat.pow_le_pow_right (by omega) h
end Go.Proofs.YtbcncdpaigljeaaGreatDoor.Aw
namespace Go.Proofs
open Go.Shelf
def Tryz.lays217_ren : Go.Shelf.Ren := ⟨fun | 217 => 67 | 266 => 112 | n => n, fun | 9 => 9 | 5 => 5 | 3 => 3 | n => n, fun | n => n⟩
theorem Tryz.lays217 : Go.Proofs.Lays.n217 Tryz.prog Tryz.lays217_ren := {
 mixed := by kernel_rfl
 f217 := Tryz.func67.trans (congrArg some (by kernel_rfl))
 f266 := Tryz.func112.trans (congrArg some (by kernel_rfl))
 t3 := Tryz.underlying3
 a3 := Tryz.isAgg3
 z3 := Tryz.sizeOf3
 v3 := Tryz.zeroValue3
 t5 := Tryz.underlying5
 a5 := Tryz.isAgg5
 z5 := Tryz.sizeOf5
 v5 := Tryz.zeroValue5
 t9 := Tryz.underlying9
 a9 := Tryz.isAgg9
 z9 := Tryz.sizeOf9
 v9 := Tryz.zeroValue9 }
open Go.RowKit Go.Lib in
theorem Tryz.stringslite_IndexByte (s : ByteArray) (c : Int) (w : World) :
   Calls Tryz.prog 67 #[.string s, .int .u8 c] w fun e w' => e = .returned (.int .i64 (Lib.indexByte s.data.toList c.toNat.toUInt8)) ∧ w' = w := Any.stringslite_IndexByte Tryz.lays217 s c w
def Tryz.lays187_ren : Go.Shelf.Ren := ⟨fun | 187 => 144 | 255 => 150 | n => n, fun | 37 => 22 | 5 => 5 | 3 => 3 | n => n, fun | n => n⟩
theorem Tryz.lays187 : Go.Proofs.Lays.n187 Tryz.prog Tryz.lays187_ren := {
 mixed := by kernel_rfl
 f187 := Tryz.func144.trans (congrArg some (by kernel_rfl))
 f255 := Tryz.func150.trans (congrArg some (by kernel_rfl))
 t3 := Tryz.underlying3
 a3 := Tryz.isAgg3
 z3 := Tryz.sizeOf3
 v3 := Tryz.zeroValue3
 t5 := Tryz.underlying5
 a5 := Tryz.isAgg5
 z5 := Tryz.sizeOf5
 v5 := Tryz.zeroValue5
 t37 := Tryz.underlying22
 a37 := Tryz.isAgg22
 z37 := Tryz.sizeOf22
 v37 := Tryz.zeroValue22 }
theorem Tryz.bytes_IndexByte (b o n c : Nat) (xs : List Int) (cv : Int) (w : World) (hx : xs.length = n) (hc : ∀ i, i < n → w.cell? ⟨b, o + i, none⟩ = some (.int .u8 (xs.getD i 0))) :
   Calls Tryz.prog 144 #[.slice (some ⟨b, o, none⟩) n c, .int .u8 cv] w fun e w' => e = .returned (.int .i64 (Lib.indexByte (Lib.bytesOf xs) cv.toNat.toUInt8)) ∧ w' = w := Any.bytes_IndexByte Tryz.lays187 b o n c xs cv w hx hc
end Go.Proofs
namespace Go.Proofs.YtbcncdpaigljeaaGreatDoor.Aw
open Go
set_option linter.unusedSimpArgs false
set_option linter.unusedVariables false
theorem slite_IndexByte_c [Tabs Tryz.prog] (s : ByteArray) (c : UInt8) : Con Tryz.prog n_stringslite_IndexByte [.sc (.string s), .sc (.int .u8 c.toNat)] (.sc (.int .i64 (Lib.indexByte s.data.toList c))) := by
 refine Con.same (xs := [.string s, .int .u8 c.toNat]) fun w => ?_
 have := Tryz.stringslite_IndexByte s c.toNat w
 rw [show ((c.toNat : Int).toNat.toUInt8) = c by simp] at this
 exact this
theorem strings_IndexByte_c [Tabs Tryz.prog] (s : ByteArray) (c : UInt8) : Con Tryz.prog n_strings_IndexByte [.sc (.string s), .sc (.int .u8 c.toNat)] (.sc (.int .i64 (Lib.indexByte s.data.toList c))) := by
 refine Con.of' mix Tryz.func36 rfl Tryz.ntmps36 e_strings_IndexByte r_strings_IndexByte (by simp) rfl rfl ?_
 unfold s_strings_IndexByte
 repeat (first | refine zS ?_ | exact zT)
 refine goC_p _ (.inl ⟨rfl, slite_IndexByte_c s c⟩) ?_
 repeat (first | refine zS ?_ | exact zT)
theorem rd_u8 {G : Gh} {w : World} : ∀ {b : List UInt8} {vs : List Value}, RdL G w (b.map u8) vs → vs = b.map fun c => Value.int .u8 (c.toNat : Int)
 | [], vs, h => by simpa [RdL] using h
 | c :: b, vs, h => by
   simp only [List.map_cons, RdL] at h
   obtain ⟨v, r, rfl, h1, h2⟩ := h
   rw [rd_u8 h2]
   simp only [u8, Rd] at h1
   rw [h1]; rfl
theorem bytesOf_u8 {b : List UInt8} : Lib.bytesOf (b.map fun c => (c.toNat : Int)) = b := by
 simp [Lib.bytesOf, Function.comp_def]
theorem bytes_IndexByte_c [Tabs Tryz.prog] (nl : Bool) (b : List UInt8) (hb : b ≠ []) (c : UInt8) : Con Tryz.prog n_bytes_IndexByte [.sl nl none (b.map u8), .sc (.int .u8 c.toNat)] (.sc (.int .i64 (Lib.indexByte b c))) := by
 intro w S vs _ hS hr
 simp only [RdL] at hr
 obtain ⟨v, r, rfl, h1, v2, r2, rfl, h2, rfl⟩ := hr
 simp only [Rd] at h1 h2
 subst h2
 obtain ⟨base, len, cap, us, rfl, rfl, hlc, hus, _, hbc, hcell⟩ := h1
 have hus := rd_u8 hus
 subst hus
 have hne : (b.map fun c => Value.int .u8 (c.toNat : Int)) ≠ [] := by simpa using hb
 cases base with
 | none =>
   have := hbc rfl
   rw [this, List.length_map] at hlc
   exact absurd (List.eq_nil_of_length_eq_zero (by omega)) hb
 | some a =>
   obtain ⟨hsp, _, hat⟩ := hcell a rfl hne
   obtain ⟨ab, ao, asp⟩ := a
   simp only at hsp hat
   subst hsp
   have hc := Tryz.bytes_IndexByte ab ao b.length cap (b.map fun c => (c.toNat : Int)) c.toNat w (by simp) (fun i hi => by
     have hx : (b.map fun c => Value.int .u8 (c.toNat : Int))[i]? = some (.int .u8 ((b[i]).toNat : Int)) := by simp [hi]
     have := (hat i _ hx).2 0 (.int .u8 ((b[i]).toNat : Int)) rfl
     simp only [esz, Nat.mul_one, Nat.add_zero] at this
     rw [this]
     simp [List.getD, hi])
   rw [bytesOf_u8, show ((c.toNat : Int).toNat.toUInt8) = c by simp] at hc
   rw [List.length_map]
   refine Calls.mono hc ?_
   rintro e w' ⟨rfl, rfl⟩
   exact ⟨_, S, rfl, Keep.refl _ _ _, fun _ h => h, fun _ h => .inl h, hS, rfl, by simp [Rd]⟩
set_option maxRecDepth 100000 in
theorem slices_GrowY [Tabs Tryz.prog] (n : Nat) (h0 : 0 < n) (hn : n ≤ 10000000) : HCon Tryz.prog n_slices_Growbytebyte [.sc (.slice none 0 0), int n] [] (.own 22 1 none 0 0) [(22, 1, .row false [])] 2 := by
 refine HCon.of' mix Tryz.func70 rfl Tryz.ntmps70 e_slices_Growbytebyte r_slices_Growbytebyte (by simp) (by simp [AV.gl, AV.gl.glL, int]) (by simp) ?_
 unfold s_slices_Growbytebyte
 have d1 : decide ((n : Int) < 0) = false := decide_eq_false (by omega)
 have d2 : decide ((n : Int) > 0) = true := decide_eq_true (by omega)
 have d3 : (n == 0) = false := by simp; omega
 iterate 16 (first | refine zR (ja3 @d1 @d2 @d3) ?_ | exact zU (ja3 @d1 @d2 @d3))
 refine SWp.cut 22 0 (g := 1) (nl := false) (cells := (List.replicate n [AV.sc (.int .u8 0)]).flatten) (by (first | exact yT | refine yS ?_)) ?_
 repeat (first | refine zS ?_ | exact zT)
set_option maxRecDepth 100000 in
theorem slices_ConcatY_h [Tabs Tryz.prog] (n1 n2 n3 : Bool) (X Y Z : List UInt8) (n : Nat) (hn : n = X.length + Y.length + Z.length) (hl : n ≤ 10000000) (h0 : 0 < X.length) :
   HCon Tryz.prog n_slices_Concatbytebyte [.sl false none [.sl n1 none (X.map u8), .sl n2 none (Y.map u8), .sl n3 none (Z.map u8)]] [] (.own 1022 5 none 0 n) [(1022, 5, .row false ((X ++ (Y ++ Z)).map u8))] 10 := by
 refine HCon.of' mix Tryz.func38 rfl Tryz.ntmps38 e_slices_Concatbytebyte r_slices_Concatbytebyte (by simp) (by simp only [AV.gl, AV.gl.glL, and_true]; exact ⟨glL_of_free _ _ free_u8, glL_of_free _ _ free_u8, glL_of_free _ _ free_u8⟩) (by simp) ?_
 unfold s_slices_Concatbytebyte
 obtain ⟨m, hm⟩ : ∃ m, m = X.length + Y.length := ⟨_, rfl⟩
 have hc : (X.length : Int) + (Y.length : Int) = (m : Int) := by omega
 have hc2 : (m : Int) + (Z.length : Int) = (n : Int) := by omega
 have d1 : decide ((X.length : Int) < 0) = false := decide_eq_false (by omega)
 have d2 : decide ((m : Int) < 0) = false := decide_eq_false (by omega)
 have d3 : decide ((n : Int) < 0) = false := decide_eq_false (by omega)
 repeat (first | refine zS ?_ | exact zT)
 refine SWp.unroll ?_
 repeat (first | refine zR (ja6 @d1 @hc @d2 @hc2 @d3 @List.length_map.{0, 0}) ?_ | exact zU (ja6 @d1 @hc @d2 @hc2 @d3 @List.length_map.{0, 0}))
 refine goC_h [] 1000 (slices_GrowY n (by omega) (by omega)) (by simp) (by simp) ?_ ?_ ?_
 iterate 2 (case _ => (first | exact yT | refine yS ?_))
 repeat (first | refine zS ?_ | exact zT)
 have e1 : X.length ≤ 70368744177664 := by omega
 have e2 : X.length + Y.length ≤ 70368744177664 := by omega
 have hn2 : X.length + Y.length + Z.length = n := hn.symm
 refine SWp.unroll ?_
 repeat (first | refine zR (ja3 @List.length_append.{0} @List.length_map.{0, 0} @hn2) ?_ | exact zU (ja3 @List.length_append.{0} @List.length_map.{0, 0} @hn2))
theorem frzL_u8 {hp : Hp} : ∀ {l : List UInt8}, frz.frzL hp (l.map u8) = l.map u8
 | [] => rfl
 | c :: l => by simp only [List.map_cons, frz.frzL]; rw [frzL_u8]; rfl
def tlB (b : List UInt8) : List UInt8 := leB (crcMore 0 b).toNat 4 ++ leB b.length 4
theorem leB4 {n : Nat} : leB n 4 = [UInt8.ofNat n, UInt8.ofNat (n / 256), UInt8.ofNat (n / 65536), UInt8.ofNat (n / 16777216)] := by
 simp [leB, List.range_succ]
theorem length_leB4 {n : Nat} : (leB n 4).length = 4 := by simp [leB]
theorem leR4 {n : Nat} : leR n 4 = .sl false none ((leB n 4).map u8) := rfl
set_option maxRecDepth 100000 in
theorem gz_tail_c [Tabs Tryz.prog] (nl : Bool) (b : List UInt8) (hb : b.length ≤ 1000000) : Con Tryz.prog n_gzip_tail [.sl nl none (b.map u8)] (.agg ((tlB b).map u8)) := by
 refine Con.of' mix Tryz.func37 rfl Tryz.ntmps37 e_gzip_tail r_gzip_tail (by simp) (by simp only [AV.free, AV.free.freeL, free_u8, Bool.and_self]) (by simp only [AV.free, free_u8]) ?_
 unfold s_gzip_tail
 have hc := digest_Crc_c nl b hb
 have hlt := (crcMore 0 b).toNat_lt
 obtain ⟨c, hcc⟩ : ∃ c, c = crcMore 0 b := ⟨_, rfl⟩
 have ht : tlB b = leB c.toNat 4 ++ leB b.length 4 := by rw [hcc]; rfl
 rw [← hcc] at hc hlt
 have l1 := codec_Le_c c.toNat (by omega) 4 (by omega) (by omega)
 have l2 := codec_Le_c b.length (by omega) 4 (by omega) (by omega)
 rw [leR4] at l1 l2
 rw [ht]
 have hL1 : (leB c.toNat 4).length = 4 := length_leB4
 have hL2 : (leB b.length 4).length = 4 := length_leB4
 obtain ⟨X, hX⟩ : ∃ X, X = leB c.toNat 4 := ⟨_, rfl⟩
 obtain ⟨Y, hY⟩ : ∃ Y, Y = leB b.length 4 := ⟨_, rfl⟩
 rw [← hX] at l1 hL1 ⊢
 rw [← hY] at l2 hL2 ⊢
 obtain ⟨Z, hZ⟩ : ∃ Z, Z = X ++ Y := ⟨_, rfl⟩
 have hZl : Z.length = 8 := by rw [hZ, List.length_append]; omega
 have hZm : X.map u8 ++ Y.map u8 = Z.map u8 := by rw [hZ, List.map_append]
 rw [← hZ]
 have hwr : IntKind.u64.wrap (b.length : Int) = (b.length : Int) := wrap_u64_id (by omega) (by omega)
 have hwc : IntKind.u64.wrap (c.toNat : Int) = (c.toNat : Int) := wrap_u64_id (by omega) (by omega)
 have t1 : (X.map u8).take 8 = X.map u8 := List.take_of_length_le (by simp; omega)
 have t2 : (Y.map u8).take 4 = Y.map u8 := List.take_of_length_le (by simp; omega)
 repeat (first | refine zS ?_ | exact zT)
 refine goC_p _ (.inl ⟨by simp only [AV.free, AV.free.freeL, free_u8, Bool.and_self], hc⟩) ?_
 repeat (first | refine zR @hwc ?_ | exact zU @hwc)
 refine goC_p _ (.inl ⟨rfl, l1⟩) ?_
 repeat (first | refine zR (ja4 @hL1 @List.length_map.{0, 0} @t1 @hwr) ?_ | exact zU (ja4 @hL1 @List.length_map.{0, 0} @t1 @hwr))
 refine goC_p _ (.inl ⟨rfl, l2⟩) ?_
 have t3 : (X.map u8).take 4 = X.map u8 := List.take_of_length_le (by simp; omega)
 have t5 : ∀ R, (X.map u8 ++ R).take 4 = X.map u8 := fun R => by rw [List.take_append_of_le_length (by simp; omega)]; exact t3
 have t6 : ∀ a b c d, (X.map u8 ++ [a, b, c, d]).drop 8 = ([] : List AV) := fun a b c d => List.drop_of_length_le (by simp; omega)
 have t4 : (Z.map u8).take 8 = Z.map u8 := List.take_of_length_le (by simp; omega)
 repeat (first | refine zR (ja8 @hL1 @hL2 @List.length_map.{0, 0} @t2 @t3 @t4 @t5 (ja5 @t6 @List.length_append.{0} @hZm @hZl @frzL_u8)) ?_ | exact zU (ja8 @hL1 @hL2 @List.length_map.{0, 0} @t2 @t3 @t4 @t5 (ja5 @t6 @List.length_append.{0} @hZm @hZl @frzL_u8)))
end Go.Proofs.YtbcncdpaigljeaaGreatDoor.Aw
namespace Go.Proofs.YtbcncdpaigljeaaGreatDoor.Aw
open Go
set_option linter.unusedSimpArgs false
set_option linter.unusedVariables false
def hdB (nm : List UInt8) (mt : Nat) : List UInt8 := 31 :: 139 :: 8 :: (if nm = [] then 0 else 8) :: (leB mt 4 ++ (0 :: 3 :: (if nm = [] then [] else nm ++ [0])))
set_option maxRecDepth 100000 in
theorem gz_head_c [Tabs Tryz.prog] (nm : ByteArray) (hn : nm.data.toList.length ≤ 200) (mt : Nat) (hm : mt < 4294967296) (nl : Bool) (b : List UInt8) : Con Tryz.prog n_gzip_head [.agg [.sc (.string nm), int mt, .sl nl none (b.map u8)]] (.sl false none ((hdB nm.data.toList mt).map u8)) := by
 refine Con.of' mix Tryz.func39 rfl Tryz.ntmps39 e_gzip_head r_gzip_head (by simp) (by simp only [AV.free, AV.free.freeL, free_u8, int, Bool.and_self]) (by simp only [AV.free, free_u8]) ?_
 unfold s_gzip_head
 have l1 := codec_Le_c mt (by omega) 4 (by omega) (by omega)
 rw [leR4] at l1
 have hL1 : (leB mt 4).length = 4 := length_leB4
 obtain ⟨X, hX⟩ : ∃ X, X = leB mt 4 := ⟨_, rfl⟩
 rw [hdB, ← hX]
 rw [← hX] at l1 hL1
 have hwc : IntKind.u64.wrap (mt : Int) = (mt : Int) := wrap_u64_id (by omega) (by omega)
 by_cases c : nm.data.toList = []
 · have d : decide (nm.data.toList = (⟨#[]⟩ : ByteArray).data.toList) = true := decide_eq_true c
   rw [if_pos c, if_pos c]
   repeat (first | refine zR (ja2 @d @hwc) ?_ | exact zU (ja2 @d @hwc))
   refine goC_p _ (.inl ⟨rfl, l1⟩) ?_
   repeat (first | refine zR (ja3 @d @hL1 @List.length_map.{0, 0}) ?_ | exact zU (ja3 @d @hL1 @List.length_map.{0, 0}))
   rw [List.take_of_length_le (by simp; omega)]
 · have d : decide (nm.data.toList = (⟨#[]⟩ : ByteArray).data.toList) = false := decide_eq_false c
   rw [if_neg c, if_neg c]
   repeat (first | refine zR (ja2 @d @hwc) ?_ | exact zU (ja2 @d @hwc))
   refine goC_p _ (.inl ⟨rfl, l1⟩) ?_
   repeat (first | refine zR (ja3 @d @hL1 @List.length_map.{0, 0}) ?_ | exact zU (ja3 @d @hL1 @List.length_map.{0, 0}))
   rw [List.take_of_length_le (by simp; omega)]
theorem hdB_len {nm : List UInt8} {mt : Nat} : 10 ≤ (hdB nm mt).length ∧ (hdB nm mt).length ≤ 11 + nm.length := by
 rw [hdB]
 simp only [List.length_cons, List.length_append, length_leB4]
 by_cases c : nm = []
 · simp only [if_pos c, List.length_nil]; omega
 · simp only [if_neg c, List.length_append, List.length_cons, List.length_nil]; omega
end Go.Proofs.YtbcncdpaigljeaaGreatDoor.Aw
namespace Go.Proofs.YtbcncdpaigljeaaGreatDoor.Aw
open Go
set_option linter.unusedSimpArgs false
set_option linter.unusedVariables false
def mbA (nm : ByteArray) (mt : Int) (nl : Bool) (b : List UInt8) : AV := .agg [.sc (.string nm), int mt, .sl nl none (b.map u8)]
set_option maxHeartbeats 1000000 in
set_option maxRecDepth 100000 in
theorem gz_Pack_h [Tabs Tryz.prog] (nm : ByteArray) (hn : nm.data.toList.length ≤ 200) (hz : Lib.indexByte nm.data.toList 0 < 0) (mt : Nat) (hm : mt < 4294967296) (nl : Bool) (b : List UInt8) (hb : b.length ≤ 1000000) (how : Int) (K : List UInt8) (hK : K.length ≤ 1000000)
   (hD : Con Tryz.prog n_deflate_Deflate [.sl nl none (b.map u8), int how] (.tup [.sl false none (K.map u8), int 0])) (n : Nat) (hnn : n = (hdB nm.data.toList mt ++ (K ++ tlB b)).length) :
   HCon Tryz.prog n_gzip_Pack [mbA nm mt nl b, int how] [] (.tup [.own 4022 8 none 0 n, int 0]) [(4022, 8, .row false ((hdB nm.data.toList mt ++ (K ++ tlB b)).map u8))] 20 := by
 refine HCon.of' mix Tryz.func13 rfl Tryz.ntmps13 e_gzip_Pack r_gzip_Pack (by simp) (by simp only [mbA, AV.gl, AV.gl.glL, int, and_true, true_and]; exact glL_of_free _ _ free_u8) (by simp) ?_
 unfold s_gzip_Pack
 have hf : AV.free.freeL (b.map u8) = true := free_u8
 have p1 := strings_IndexByte_c nm 0
 have p2 := gz_tail_c nl b hb
 have p3 := gz_head_c nm hn mt hm nl b
 obtain ⟨H, hH⟩ : ∃ H, H = hdB nm.data.toList mt := ⟨_, rfl⟩
 obtain ⟨T, hT⟩ : ∃ T, T = tlB b := ⟨_, rfl⟩
 have hTl : T.length = 8 := by rw [hT, tlB, List.length_append, length_leB4, length_leB4]
 have hHl := hdB_len (nm := nm.data.toList) (mt := mt)
 rw [← hH] at p3 hnn hHl ⊢
 rw [← hT] at p2 hnn ⊢
 simp only [List.length_append] at hnn
 have p4 := slices_ConcatY_h false false false H K T n (by omega) (by omega) (by omega)
 have d1 : decide ((mt : Int) < 0) = false := decide_eq_false (by omega)
 have d2 : decide ((4294967295 : Int) < (mt : Int)) = false := decide_eq_false (by omega)
 have d3 : decide ((200 : Int) < (nm.data.toList.length : Int)) = false := decide_eq_false (by omega)
 have d4 : decide ((0 : Int) ≤ Lib.indexByte nm.data.toList 0) = false := decide_eq_false (by omega)
 have t8 : (T.map u8).take 8 = T.map u8 := List.take_of_length_le (by simp; omega)
 repeat (first | refine zR (ja4 @mbA.eq_1 @d1 @d2 @d3) ?_ | exact zU (ja4 @mbA.eq_1 @d1 @d2 @d3))
 refine goC_p _ (.inl ⟨rfl, p1⟩) ?_
 repeat (first | refine zR @d4 ?_ | exact zU @d4)
 refine goC_p _ (.inl ⟨by simp only [AV.free, AV.free.freeL, int, free_u8, Bool.and_self], hD⟩) ?_
 repeat (first | refine zS ?_ | exact zT)
 refine goC_p _ (.inl ⟨by simp only [AV.free, AV.free.freeL, free_u8, Bool.and_self], p2⟩) ?_
 iterate 1 (first | refine zR @hTl ?_ | exact zU @hTl)
 refine SWp.le (le_mk (N := 46) (gc := 3) (l := [(2, .op 2 1 0), (6, .sl false none (K.map u8)), (8, .op 8 2 0)]) (h := [(2, 1, .row false [.sc (.string nm), int mt, .sl nl none (b.map u8)]), (8, 2, .row false (T.map u8))]) rfl ?_ ?_ ?_) ?_
 · exact Nat.le_refl _
 iterate 2 (case _ => (first | exact yU @hTl | refine yR @hTl ?_))
 refine SWp.frzo 8 2 (nl := false) (cells := T.map u8) (by (first | exact yT | refine yS ?_)) free_u8 ?_
 refine SWp.le (le_mk (N := 46) (gc := 3) (l := [(2, .op 2 1 0), (6, .sl false none (K.map u8)), (8, .fp (.agg (T.map u8)) 0)]) (h := [(2, 1, .row false [.sc (.string nm), int mt, .sl nl none (b.map u8)])]) rfl ?_ ?_ ?_) ?_
 · exact Nat.le_refl _
 iterate 2 (case _ => (first | exact yU (ja2 fR @hTl) | refine yR (ja2 fR @hTl) ?_))
 repeat (first | refine zS ?_ | exact zT)
 refine goC_p _ (.inl ⟨by simp only [AV.free, AV.free.freeL, free_u8, Bool.and_self], p3⟩) ?_
 repeat (first | refine zR (ja2 @t8 @hTl) ?_ | exact zU (ja2 @t8 @hTl))
 refine goC_h [] 3000 p4 (by simp) (by simp) ?_ ?_ ?_
 iterate 2 (case _ => (first | exact yT | refine yS ?_))
 repeat (first | refine zS ?_ | exact zT)
end Go.Proofs.YtbcncdpaigljeaaGreatDoor.Aw
namespace Go.Proofs.YtbcncdpaigljeaaGreatDoor.Aw
open Go
set_option linter.unusedSimpArgs false
set_option linter.unusedVariables false
set_option maxRecDepth 100000 in
theorem slices_GrowI [Tabs Tryz.prog] (n : Nat) (h0 : 0 < n) (hn : n ≤ 1000000) : HCon Tryz.prog n_slices_Growintint [.sc (.slice none 0 0), int n] [] (.own 22 1 none 0 0) [(22, 1, .row false [])] 2 := by
 refine HCon.of' mix Tryz.func125 rfl Tryz.ntmps125 e_slices_Growintint r_slices_Growintint (by simp) (by simp [AV.gl, AV.gl.glL, int]) (by simp) ?_
 unfold s_slices_Growintint
 have d1 : decide ((n : Int) < 0) = false := decide_eq_false (by omega)
 have d2 : decide ((n : Int) > 0) = true := decide_eq_true (by omega)
 have d3 : (n == 0) = false := by simp; omega
 iterate 16 (first | refine zR (ja3 @d1 @d2 @d3) ?_ | exact zU (ja3 @d1 @d2 @d3))
 refine SWp.cut 22 0 (g := 1) (nl := false) (cells := (List.replicate n [AV.sc (.int .i64 0)]).flatten) (by (first | exact yT | refine yS ?_)) ?_
 repeat (first | refine zS ?_ | exact zT)
end Go.Proofs.YtbcncdpaigljeaaGreatDoor.Aw
namespace Go.Proofs.YtbcncdpaigljeaaGreatDoor.Aw
open Go
set_option linter.unusedSimpArgs false
set_option linter.unusedVariables false
theorem bytes_Clone_c [Tabs Tryz.prog] (nl : Bool) (l : List UInt8) (hl : l.length ≤ 1000000) (hn : nl = true → l = []) : Con Tryz.prog n_bytes_Clone [.sl nl none (l.map u8)] (.sl nl none (l.map u8)) := by
 refine Con.of' mix Tryz.func54 rfl Tryz.ntmps54 e_bytes_Clone r_bytes_Clone (by simp) (by simp only [AV.free, AV.free.freeL, free_u8, Bool.and_self]) (by simp only [AV.free, free_u8]) ?_
 unfold s_bytes_Clone
 cases nl with
 | true =>
   obtain rfl := hn rfl
   iterate 8 (first | refine zS ?_ | exact zT)
   refine SWp.adopt 2 none (by (first | exact yT | refine yS ?_)) ?_
   repeat (first | refine zS ?_ | exact zT)
 | false =>
   repeat (first | refine zS ?_ | exact zT)
theorem bytes_Clone_h [Tabs Tryz.prog] (nl : Bool) (l : List UInt8) (hl : l.length ≤ 1000000) (hn : nl = true → l = []) : HCon Tryz.prog n_bytes_Clone [.sl nl none (l.map u8)] [] (.own 5 2 none 0 l.length) [(5, 2, .row nl (l.map u8))] 3 := by
 refine HCon.of' mix Tryz.func54 rfl Tryz.ntmps54 e_bytes_Clone r_bytes_Clone (by simp) (by simp only [AV.gl.glL, AV.gl, and_true]; exact glL_of_free _ _ free_u8) (by simp) ?_
 unfold s_bytes_Clone
 cases nl with
 | true =>
   obtain rfl := hn rfl
   iterate 8 (first | refine zS ?_ | exact zT)
   refine SWp.adopt 2 none (by (first | exact yT | refine yS ?_)) ?_
   refine SWp.le (le_mk (N := 8) (gc := 2) (l := [(2, .own 2 1 none 0 0)]) (h := [(2, 1, .row true [])]) rfl ?_ ?_ ?_) ?_
   iterate 3 (case _ => (first | exact yT | refine yS ?_))
   refine SWp.swap 2 5 (by (first | exact yU (ja2 @genOk.eq_1 @genOk.eq_2) | refine yR (ja2 @genOk.eq_1 @genOk.eq_2) ?_)) (by (first | exact yU (ja2 @genOk.eq_1 @genOk.eq_2) | refine yR (ja2 @genOk.eq_1 @genOk.eq_2) ?_)) ?_
   refine SWp.le (le_mk (N := 8) (gc := 2) (l := [(2, .own 5 1 none 0 0)]) (h := [(5, 1, .row true [])]) rfl ?_ ?_ ?_) ?_
   iterate 3 (case _ => (first | exact yU (ja3 @swr_eq @sw.eq_1 @swH.eq_1) | refine yR (ja3 @swr_eq @sw.eq_1 @swH.eq_1) ?_))
   refine SWp.renew 5 1 (o := .row true []) (by (first | exact yT | refine yS ?_)) ?_
   refine SWp.le (le_mk (N := 8) (gc := 3) (l := [(2, .own 5 2 none 0 0)]) (h := [(5, 2, .row true [])]) rfl ?_ ?_ ?_) ?_
   iterate 3 (case _ => (first | exact yU (ja2 @rgn_eq @rgH_at) | refine yR (ja2 @rgn_eq @rgH_at) ?_))
   repeat (first | refine zS ?_ | exact zT)
 | false =>
   repeat (first | refine zS ?_ | exact zT)
def bitsB (c : UInt8) : List Nat := (List.range 8).map fun k => c.toNat / 2 ^ k % 2
def bitsL (l : List UInt8) : List Nat := l.flatMap bitsB
def bitAt (l : List UInt8) (i : Nat) : Nat := (l.getD (i / 8) 0).toNat / 2 ^ (i % 8) % 2
theorem length_bitsB {c : UInt8} : (bitsB c).length = 8 := by simp [bitsB]
theorem length_bitsL : ∀ {l : List UInt8}, (bitsL l).length = 8 * l.length
 | [] => rfl
 | c :: l => by show (bitsB c ++ bitsL l).length = _; rw [List.length_append, length_bitsB, length_bitsL, List.length_cons]; omega
theorem bitsL_append {l m : List UInt8} : bitsL (l ++ m) = bitsL l ++ bitsL m := by simp [bitsL]
theorem bitsB_get {c : UInt8} {k : Nat} (h : k < 8) : (bitsB c).getD k 0 = c.toNat / 2 ^ k % 2 := by
 simp [bitsB, List.getD, h]
theorem bitsL_get : ∀ {l : List UInt8} {i : Nat}, i < 8 * l.length → (bitsL l).getD i 0 = bitAt l i
 | [], i, h => by simp at h
 | c :: l, i, h => by
   show (bitsB c ++ bitsL l).getD i 0 = _
   by_cases hi : i < 8
   · have e1 : i / 8 = 0 := by omega
     have e2 : i % 8 = i := by omega
     have : (bitsB c ++ bitsL l).getD i 0 = (bitsB c).getD i 0 := by
       simp only [List.getD]; rw [List.getElem?_append_left (by rw [length_bitsB]; exact hi)]
     rw [this, bitsB_get hi, bitAt, e1, e2]; rfl
   · have e1 : i / 8 = (i - 8) / 8 + 1 := by omega
     have e2 : i % 8 = (i - 8) % 8 := by omega
     have : (bitsB c ++ bitsL l).getD i 0 = (bitsL l).getD (i - 8) 0 := by
       simp only [List.getD]; rw [List.getElem?_append_right (by rw [length_bitsB]; omega), length_bitsB]
     rw [this, bitsL_get (by simp only [List.length_cons] at h; omega), bitAt, bitAt, e1, e2]; rfl
theorem bitAt_lt {l : List UInt8} {i : Nat} : bitAt l i < 2 := Nat.mod_lt _ (by omega)
def numB : List Nat → Nat
 | [] => 0
 | x :: r => x + 2 * numB r
theorem numB_append {a b : List Nat} : numB (a ++ b) = numB a + 2 ^ a.length * numB b := by
 induction a with
 | nil => simp [numB]
 | cons x a ih => simp only [List.cons_append, numB, ih, List.length_cons, Nat.pow_succ, Nat.mul_add]; rw [Nat.mul_comm (2 ^ a.length) 2, Nat.mul_assoc]; omega
theorem numB_lt {l : List Nat} (h : ∀ x ∈ l, x < 2) : numB l < 2 ^ l.length := by
 induction l with
 | nil => simp [numB]
 | cons x l ih =>
   have h1 := h x (by simp)
   have h2 := ih fun y hy => h y (by simp [hy])
   simp only [numB, List.length_cons, Nat.pow_succ]; omega
theorem bitsL_lt {l : List UInt8} : ∀ x ∈ bitsL l, x < 2 := by
 intro x hx
 simp only [bitsL, bitsB, List.mem_flatMap, List.mem_map] at hx
 obtain ⟨_, _, _, _, rfl⟩ := hx
 exact Nat.mod_lt _ (by omega)
def rdR (nl : Bool) (b : List UInt8) (i : Nat) : List AV := [.sl nl none (b.map u8), .sc (.int .i64 (i : Int))]
theorem rd_gl {nl : Bool} {b : List UInt8} {i : Nat} : ∀ n cells, AO.row n cells ∈ [AO.row false (rdR nl b i)] → AV.gl.glL 1 cells := by
 intro n cells h
 simp only [List.mem_singleton, AO.row.injEq] at h
 obtain ⟨-, rfl⟩ := h
 simp only [rdR, AV.gl.glL, AV.gl, and_true]
 exact glL_of_free _ _ free_u8
theorem huff_NewReader_h [Tabs Tryz.prog] (nl : Bool) (b : List UInt8) (hl : b.length ≤ 1000000) (hn : nl = true → b = []) :
   HCon Tryz.prog n_huff_NewReader [.sl nl none (b.map u8)] [] (.op 6 1 0) [(6, 1, .row false (rdR nl b 0))] 2 := by
 refine HCon.of' mix Tryz.func25 rfl Tryz.ntmps25 e_huff_NewReader r_huff_NewReader (by simp) (by simp only [AV.gl.glL, AV.gl, and_true]; exact glL_of_free _ _ free_u8) (by simp) ?_
 unfold s_huff_NewReader
 repeat (first | refine zS ?_ | exact zT)
 refine goC_p _ (.inl ⟨by simp only [AV.free, AV.free.freeL, free_u8, Bool.and_self], bytes_Clone_c nl b hl hn⟩) ?_
 repeat (first | refine zR @rdR.eq_1 ?_ | exact zU @rdR.eq_1)
theorem huff_At_h [Tabs Tryz.prog] (nl : Bool) (b : List UInt8) (i : Nat) :
   HCon Tryz.prog n_huff_Reader_At [.op 1000 0 0] [.row false (rdR nl b i)] (int (i : Int)) [(1000, 0, .row false (rdR nl b i))] 1 := by
 refine HCon.of' mix Tryz.func27 rfl Tryz.ntmps27 e_huff_Reader_At r_huff_Reader_At (by simp) (by simp [AV.gl, AV.gl.glL]) rd_gl ?_
 unfold s_huff_Reader_At
 repeat (first | refine zR @rdR.eq_1 ?_ | exact zU @rdR.eq_1)
theorem huff_left_h [Tabs Tryz.prog] (nl : Bool) (b : List UInt8) (hl : b.length ≤ 1000000) (i : Nat) (hi : i ≤ 8 * b.length) :
   HCon Tryz.prog n_huff_Reader_left [.op 1000 0 0] [.row false (rdR nl b i)] (int ((8 * b.length - i : Nat) : Int)) [(1000, 0, .row false (rdR nl b i))] 1 := by
 refine HCon.of' mix Tryz.func96 rfl Tryz.ntmps96 e_huff_Reader_left r_huff_Reader_left (by simp) (by simp [AV.gl, AV.gl.glL]) rd_gl ?_
 unfold s_huff_Reader_left
 have e : (b.length : Int) * 8 - (i : Int) = ((8 * b.length - i : Nat) : Int) := by omega
 repeat (first | refine zR (ja2 @rdR.eq_1 @e) ?_ | exact zU (ja2 @rdR.eq_1 @e))
set_option maxRecDepth 100000 in
theorem huff_bit_h [Tabs Tryz.prog] (nl : Bool) (b : List UInt8) (hl : b.length ≤ 1000000) (i : Nat) (hi : i < 8 * b.length) :
   HCon Tryz.prog n_huff_Reader_bit [.op 1000 0 0] [.row false (rdR nl b i)] (.sc (.int .i64 ((bitAt b i : Nat) : Int))) [(1000, 0, .row false (rdR nl b (i + 1)))] 1 := by
 refine HCon.of' mix Tryz.func97 rfl Tryz.ntmps97 e_huff_Reader_bit r_huff_Reader_bit (by simp) (by simp [AV.gl, AV.gl.glL]) rd_gl ?_
 unfold s_huff_Reader_bit
 have h8 : i / 8 < b.length := by omega
 have hm : i % 8 < 64 := by omega
 obtain ⟨c, hc⟩ : ∃ c, c = b.getD (i / 8) 0 := ⟨_, rfl⟩
 obtain ⟨x, hx⟩ : ∃ x, x = c.toNat / 2 ^ (i % 8) := ⟨_, rfl⟩
 have hb : bitAt b i = x % 2 := by rw [bitAt, ← hc, ← hx]
 have hcl := c.toNat_lt
 have hxl : x < 256 := by rw [hx]; exact Nat.lt_of_le_of_lt (Nat.div_le_self _ _) hcl
 repeat (first | refine zR (ja4 @rdR.eq_1 hc.symm hx.symm @hb) ?_ | exact zU (ja4 @rdR.eq_1 hc.symm hx.symm @hb))
def okTake (len i : Nat) (n : Int) : Bool := decide (0 ≤ n ∧ n ≤ 24 ∧ n ≤ ((8 * len - i : Nat) : Int))
def numAt (b : List UInt8) (i n : Nat) : Nat := numB ((List.range n).map fun k => bitAt b (i + k))
theorem numAt_succ {b : List UInt8} {i n : Nat} : numAt b i (n + 1) = numAt b i n + 2 ^ n * bitAt b (i + n) := by
 unfold numAt; rw [List.range_succ, List.map_append, numB_append]; simp [numB]
theorem numAt_lt {b : List UInt8} {i n : Nat} : numAt b i n < 2 ^ n := by
 have := numB_lt (l := (List.range n).map fun k => bitAt b (i + k)) (by intro x hx; obtain ⟨k, _, rfl⟩ := List.mem_map.1 hx; exact bitAt_lt)
 simpa [numAt] using this
set_option maxRecDepth 100000 in
theorem huff_Take_no [Tabs Tryz.prog] (nl : Bool) (b : List UInt8) (hl : b.length ≤ 1000000) (i : Nat) (hi : i ≤ 8 * b.length) (n : Int) (hn : okTake b.length i n = false) :
   HCon Tryz.prog n_huff_Reader_Take [.op 1000 0 0, int n] [.row false (rdR nl b i)] (.tup [int 0, boo false]) [(1000, 0, .row false (rdR nl b i))] 30 := by
 refine HCon.of' mix Tryz.func55 rfl Tryz.ntmps55 e_huff_Reader_Take r_huff_Reader_Take (by simp) (by simp [AV.gl, AV.gl.glL, int]) rd_gl ?_
 unfold s_huff_Reader_Take
 have hn' := of_decide_eq_false hn
 by_cases c1 : n < 0
 · have d1 := decide_eq_true c1
   repeat (first | refine zR @d1 ?_ | exact zU @d1)
 have d1 := decide_eq_false c1
 by_cases c2 : 24 < n
 · have d2 := decide_eq_true c2
   repeat (first | refine zR (ja2 @d1 @d2) ?_ | exact zU (ja2 @d1 @d2))
 have d2 := decide_eq_false c2
 have d3 : decide (((8 * b.length - i : Nat) : Int) < n) = true := decide_eq_true (by omega)
 repeat (first | refine zR (ja2 @d1 @d2) ?_ | exact zU (ja2 @d1 @d2))
 refine goC_h [(1000, 0)] 2000 (huff_left_h nl b hl i hi) (by simp) (by simp) ?_ ?_ ?_
 iterate 2 (case _ => (first | exact yU @rdR.eq_1 | refine yR @rdR.eq_1 ?_))
 repeat (first | refine zR (ja3 @d3 @rdR.eq_1 iR) ?_ | exact zU (ja3 @d3 @rdR.eq_1 iR))
set_option maxRecDepth 100000 in
theorem huff_Take_h [Tabs Tryz.prog] (nl : Bool) (b : List UInt8) (hl : b.length ≤ 1000000) (i : Nat) (hi : i ≤ 8 * b.length) (n : Nat) (hn : n ≤ 24) (hn2 : i + n ≤ 8 * b.length) :
   HCon Tryz.prog n_huff_Reader_Take [.op 1000 0 0, int (n : Int)] [.row false (rdR nl b i)] (.tup [int (numAt b i n : Nat), boo true]) [(1000, 0, .row false (rdR nl b (i + n)))] 30 := by
 refine HCon.of' mix Tryz.func55 rfl Tryz.ntmps55 e_huff_Reader_Take r_huff_Reader_Take (by simp) (by simp [AV.gl, AV.gl.glL, int]) rd_gl ?_
 unfold s_huff_Reader_Take
 have d1 : decide ((n : Int) < 0) = false := decide_eq_false (by omega)
 have d2 : decide (24 < (n : Int)) = false := decide_eq_false (by omega)
 have d3 : decide (((8 * b.length - i : Nat) : Int) < (n : Int)) = false := decide_eq_false (by omega)
 repeat (first | refine zR (ja2 @d1 @d2) ?_ | exact zU (ja2 @d1 @d2))
 refine goC_h [(1000, 0)] 2000 (huff_left_h nl b hl i hi) (by simp) (by simp) ?_ ?_ ?_
 iterate 2 (case _ => (first | exact yU @rdR.eq_1 | refine yR @rdR.eq_1 ?_))
 repeat (first | refine zR (ja2 @d3 @rdR.eq_1) ?_ | exact zU (ja2 @d3 @rdR.eq_1))
 refine SWp.loop (α := Nat) (fun k => mk 32 (2 + k) [(0, .op 1000 0 0), (1, int n), (6, int (numAt b i k : Nat)), (20, int n), (21, int k)] [(1000, 0, .row false (rdR nl b (i + k)))])
   (fun k => k ≤ n) (fun k => n - k) 0 (Nat.zero_le _) (le_mk rfl ?_ ?_ ?_) ?_
 · simp only; omega
 iterate 2 (case _ => (first | exact yU (ja5 @numAt.eq_1 @List.range_zero @numB.eq_1 @numB.eq_2 @rdR.eq_1) | refine yR (ja5 @numAt.eq_1 @List.range_zero @numB.eq_1 @numB.eq_2 @rdR.eq_1) ?_))
 rintro k hk -
 repeat (first | refine zS ?_ | exact zT)
 refine SWp.cond rfl (fun h => ?_) (fun h => ?_)
 · simp only [decide_eq_true_eq] at h
   have hkn : k < n := by omega
   have hs := numAt_succ (b := b) (i := i) (n := k)
   have hlt := numAt_lt (b := b) (i := i) (n := k)
   have hbl := bitAt_lt (l := b) (i := i + k)
   have hp : 2 ^ k ≤ 8388608 := two_pow_le (show k ≤ 23 by omega)
   obtain ⟨x, hx⟩ : ∃ x, x = bitAt b (i + k) := ⟨_, rfl⟩
   obtain ⟨y, hy⟩ : ∃ y, y = numAt b i k := ⟨_, rfl⟩
   have hbit := huff_bit_h nl b hl (i + k) (by omega)
   rw [← hx] at hbit hs hbl
   rw [← hy] at hs hlt
   rw [← hy]
   obtain ⟨z, hz⟩ : ∃ z, z = x * 2 ^ k := ⟨_, rfl⟩
   have hor : y ||| z = numAt b i (k + 1) := by
     rw [hs, hz, Nat.mul_comm, Nat.or_comm, ← Nat.two_pow_add_eq_or_of_lt hlt, Nat.add_comm]
   have hzl : z ≤ 8388608 := by
     obtain rfl | rfl : x = 0 ∨ x = 1 := by omega
     · omega
     · omega
   have hyl : y < 8388608 := by omega
   repeat (first | refine zR @rdR.eq_1 ?_ | exact zU @rdR.eq_1)
   refine goC_h [(1000, 0)] 2000 hbit (by simp) (by simp) ?_ ?_ ?_
   iterate 2 (case _ => (first | exact yU @rdR.eq_1 | refine yR @rdR.eq_1 ?_))
   repeat (first | refine zR (ja3 @rdR.eq_1 hz.symm @hor) ?_ | exact zU (ja3 @rdR.eq_1 hz.symm @hor))
   refine At.of (k + 1) (by omega) (by omega) rfl rfl ?_ ?_ ?_
   · simp only; omega
   iterate 2 (case _ => (first | exact yU (ja2 @rdR.eq_1 @Int.add_assoc) | refine yR (ja2 @rdR.eq_1 @Int.add_assoc) ?_))
 · simp only [decide_eq_false_iff_not] at h
   obtain rfl : k = n := by omega
   repeat (first | refine zR @rdR.eq_1 ?_ | exact zU @rdR.eq_1)
   omega
theorem huff_Align_h [Tabs Tryz.prog] (nl : Bool) (b : List UInt8) (hl : b.length ≤ 1000000) (i : Nat) (hi : i ≤ 8 * b.length) :
   HCon Tryz.prog n_huff_Reader_Align [.op 1000 0 0] [.row false (rdR nl b i)] (.tup []) [(1000, 0, .row false (rdR nl b ((i + 7) / 8 * 8)))] 1 := by
 refine HCon.of' mix Tryz.func98 rfl Tryz.ntmps98 e_huff_Reader_Align r_huff_Reader_Align (by simp) (by simp [AV.gl, AV.gl.glL]) rd_gl ?_
 unfold s_huff_Reader_Align
 obtain ⟨m, hm⟩ : ∃ m, m = i + 7 := ⟨_, rfl⟩
 have e : (i : Int) + 8 - 1 = (m : Int) := by omega
 rw [← hm]
 repeat (first | refine zR (ja2 @rdR.eq_1 @e) ?_ | exact zU (ja2 @rdR.eq_1 @e))
 refine ⟨rfl, ?_⟩
 rw [Int.natCast_mul]; rfl
def okBytes (len i : Nat) (n : Int) : Bool := decide (0 ≤ n ∧ n ≤ ((len - (i + 7) / 8 : Nat) : Int))
set_option maxRecDepth 100000 in
theorem huff_Bytes_no [Tabs Tryz.prog] (nl : Bool) (b : List UInt8) (hl : b.length ≤ 1000000) (i : Nat) (hi : i ≤ 8 * b.length) (n : Int) (hn : okBytes b.length i n = false) :
   HCon Tryz.prog n_huff_Reader_Bytes [.op 1000 0 0, int n] [.row false (rdR nl b i)] (.tup [.sc (.slice none 0 0), boo false]) [(1000, 0, .row false (rdR nl b ((i + 7) / 8 * 8)))] 10 := by
 refine HCon.of' mix Tryz.func99 rfl Tryz.ntmps99 e_huff_Reader_Bytes r_huff_Reader_Bytes (by simp) (by simp [AV.gl, AV.gl.glL, int]) rd_gl ?_
 unfold s_huff_Reader_Bytes
 have hn' := of_decide_eq_false hn
 obtain ⟨j, hj⟩ : ∃ j, j = (i + 7) / 8 := ⟨_, rfl⟩
 rw [← hj] at hn' ⊢
 repeat (first | refine zS ?_ | exact zT)
 refine goC_h [(1000, 0)] 2000 (huff_Align_h nl b hl i hi) (by simp) (by simp) ?_ ?_ ?_
 iterate 2 (case _ => (first | exact yU @rdR.eq_1 | refine yR @rdR.eq_1 ?_))
 rw [← hj]
 by_cases c1 : n < 0
 · have d1 := decide_eq_true c1
   repeat (first | refine zR (ja2 @d1 @rdR.eq_1) ?_ | exact zU (ja2 @d1 @rdR.eq_1))
 have d1 := decide_eq_false c1
 have d3 : decide (((8 * b.length - j * 8 : Nat) : Int) / 8 < n) = true := decide_eq_true (by omega)
 have d3' : decide ((((8 * b.length - j * 8) / 8 : Nat) : Int) < n) = true := decide_eq_true (by omega)
 repeat (first | refine zR (ja2 @d1 @rdR.eq_1) ?_ | exact zU (ja2 @d1 @rdR.eq_1))
 refine goC_h [(1000, 0)] 3000 (huff_left_h nl b hl (j * 8) (by omega)) (by simp) (by simp) ?_ ?_ ?_
 iterate 2 (case _ => (first | exact yU @rdR.eq_1 | refine yR @rdR.eq_1 ?_))
 repeat (first | refine zR (ja2 @d3' @rdR.eq_1) ?_ | exact zU (ja2 @d3' @rdR.eq_1))
set_option maxRecDepth 100000 in
theorem huff_Bytes_h [Tabs Tryz.prog] (nl : Bool) (b : List UInt8) (hl : b.length ≤ 1000000) (hnl : nl = true → b = []) (i : Nat) (hi : i ≤ 8 * b.length) (j : Nat) (hj : j = (i + 7) / 8) (n : Nat) (hn : n + j ≤ b.length) :
   HCon Tryz.prog n_huff_Reader_Bytes [.op 1000 0 0, int (n : Int)] [.row false (rdR nl b i)] (.tup [.sl nl none (((b.drop j).take n).map u8), boo true]) [(1000, 0, .row false (rdR nl b (8 * (j + n))))] 10 := by
 refine HCon.of' mix Tryz.func99 rfl Tryz.ntmps99 e_huff_Reader_Bytes r_huff_Reader_Bytes (by simp) (by simp [AV.gl, AV.gl.glL, int]) rd_gl ?_
 unfold s_huff_Reader_Bytes
 repeat (first | refine zS ?_ | exact zT)
 refine goC_h [(1000, 0)] 2000 (huff_Align_h nl b hl i hi) (by simp) (by simp) ?_ ?_ ?_
 iterate 2 (case _ => (first | exact yU @rdR.eq_1 | refine yR @rdR.eq_1 ?_))
 rw [← hj]
 have d1 : decide ((n : Int) < 0) = false := decide_eq_false (by omega)
 have d3 : decide ((((8 * b.length - j * 8) / 8 : Nat) : Int) < (n : Int)) = false := decide_eq_false (by omega)
 have hnl' : nl = true → (b.drop j).take n = [] := fun h => by rw [hnl h]; simp
 have e2 : j * 8 / 8 = j := by omega
 have hl2 : ((b.drop j).take n).length ≤ 1000000 := by rw [List.length_take, List.length_drop]; omega
 have hdt : (b.take (j + n)).drop j = (b.drop j).take n := by rw [List.drop_take]; congr 1; omega
 have e3 : 8 * (j + n) = j * 8 + n * 8 := by omega
 rw [e3]
 repeat (first | refine zR (ja2 @d1 @rdR.eq_1) ?_ | exact zU (ja2 @d1 @rdR.eq_1))
 refine goC_h [(1000, 0)] 3000 (huff_left_h nl b hl (j * 8) (by omega)) (by simp) (by simp) ?_ ?_ ?_
 iterate 2 (case _ => (first | exact yU @rdR.eq_1 | refine yR @rdR.eq_1 ?_))
 repeat (first | refine zR (ja4 @d3 @rdR.eq_1 @e2 @hdt) ?_ | exact zU (ja4 @d3 @rdR.eq_1 @e2 @hdt))
 refine goC_p _ (.inl ⟨by simp only [AV.free, AV.free.freeL, free_u8, Bool.and_self], bytes_Clone_c nl _ hl2 hnl'⟩) ?_
 repeat (first | refine zR @rdR.eq_1 ?_ | exact zU @rdR.eq_1)
 rw [Int.natCast_mul n 8]; rfl
end Go.Proofs.YtbcncdpaigljeaaGreatDoor.Aw
namespace Go.Proofs.YtbcncdpaigljeaaGreatDoor.Aw
open Go
set_option linter.unusedSimpArgs false
set_option linter.unusedVariables false
def byteAt (L : List Nat) (k : Nat) : UInt8 := UInt8.ofNat (numB ((L.drop (8 * k)).take 8))
def bytesB (L : List Nat) : List UInt8 := (List.range ((L.length + 7) / 8)).map (byteAt L)
theorem length_bytesB {L : List Nat} : (bytesB L).length = (L.length + 7) / 8 := by simp [bytesB]
theorem byteAt_append {L M : List Nat} {k : Nat} (h : 8 * k + 8 ≤ L.length) : byteAt (L ++ M) k = byteAt L k := by
 unfold byteAt
 rw [List.drop_append_of_le_length (by omega), List.take_append_of_le_length (by rw [List.length_drop]; omega)]
theorem bytesB_snoc0 {L : List Nat} {x : Nat} (h : L.length % 8 = 0) : bytesB (L ++ [x]) = bytesB L ++ [UInt8.ofNat x] := by
 unfold bytesB
 rw [List.length_append, List.length_singleton, show (L.length + 1 + 7) / 8 = (L.length + 7) / 8 + 1 by omega, List.range_succ, List.map_append]
 congr 1
 · refine List.map_congr_left fun k hk => ?_
   have := List.mem_range.1 hk
   exact byteAt_append (by omega)
 · have e : 8 * ((L.length + 7) / 8) = L.length := by omega
   simp only [List.map_cons, List.map_nil, byteAt, e, List.drop_left]
   simp [numB]
theorem bytesB_last {L : List Nat} (h : L.length % 8 ≠ 0) : (bytesB L).getD (L.length / 8) 0 = UInt8.ofNat (numB (L.drop (8 * (L.length / 8)))) := by
 have hk : L.length / 8 < (L.length + 7) / 8 := by omega
 have : (L.drop (8 * (L.length / 8))).take 8 = L.drop (8 * (L.length / 8)) := List.take_of_length_le (by rw [List.length_drop]; omega)
 simp only [List.getD, bytesB, List.getElem?_map, List.getElem?_range hk, Option.map_some, Option.getD_some, byteAt, this]
theorem bytesB_snoc1 {L : List Nat} {x : Nat} (h : L.length % 8 ≠ 0) : bytesB (L ++ [x]) = (bytesB L).set (L.length / 8) (UInt8.ofNat (numB (L.drop (8 * (L.length / 8))) + 2 ^ (L.length % 8) * x)) := by
 apply List.ext_getElem?
 intro k
 have hl : (L ++ [x]).length = L.length + 1 := by simp
 have e : (L.length + 1 + 7) / 8 = (L.length + 7) / 8 := by omega
 rw [List.getElem?_set, length_bytesB]
 by_cases hk : k < (L.length + 7) / 8
 · have h1 : (bytesB (L ++ [x]))[k]? = some (byteAt (L ++ [x]) k) := by simp [bytesB, e, hk]
   have h2 : (bytesB L)[k]? = some (byteAt L k) := by simp [bytesB, hk]
   rw [h1, h2]
   split
   · rename_i e'
     subst e'
     rw [if_pos hk]
     congr 1
     unfold byteAt
     rw [List.drop_append_of_le_length (by omega), List.take_of_length_le (by rw [List.length_append, List.length_drop, List.length_singleton]; omega), numB_append, List.length_drop]
     have : L.length - 8 * (L.length / 8) = L.length % 8 := by omega
     rw [this]; simp [numB]
   · rw [byteAt_append (by omega)]
 · have h1 : (bytesB (L ++ [x]))[k]? = none := List.getElem?_eq_none (by rw [length_bytesB, hl]; omega)
   have h2 : (bytesB L)[k]? = none := List.getElem?_eq_none (by rw [length_bytesB]; omega)
   rw [h1, h2]
   split
   · rename_i e'
     rw [e', if_neg hk]
   · rfl
def digB (v n : Nat) : List Nat := (List.range n).map fun k => v / 2 ^ k % 2
def rowB (v n : Nat) : List Nat := (List.range n).map fun k => v / 2 ^ (n - 1 - k) % 2
theorem digB_lt {v n : Nat} : ∀ x ∈ digB v n, x < 2 := by
 intro x hx; obtain ⟨k, _, rfl⟩ := List.mem_map.1 hx; exact Nat.mod_lt _ (by omega)
theorem rowB_lt {v n : Nat} : ∀ x ∈ rowB v n, x < 2 := by
 intro x hx; obtain ⟨k, _, rfl⟩ := List.mem_map.1 hx; exact Nat.mod_lt _ (by omega)
theorem length_digB {v n : Nat} : (digB v n).length = n := by simp [digB]
theorem length_rowB {v n : Nat} : (rowB v n).length = n := by simp [rowB]
theorem digB_snoc {v n k : Nat} (h : k < n) : (digB v n).take (k + 1) = (digB v n).take k ++ [v / 2 ^ k % 2] := by
 rw [snocD (d := 0) (by rw [length_digB]; exact h)]; simp [digB, List.getD, h]
theorem rowB_snoc {v n k : Nat} (h : k < n) : (rowB v n).take (k + 1) = (rowB v n).take k ++ [v / 2 ^ (n - 1 - k) % 2] := by
 rw [snocD (d := 0) (by rw [length_rowB]; exact h)]; simp [rowB, List.getD, h]
end Go.Proofs.YtbcncdpaigljeaaGreatDoor.Aw
namespace Go.Proofs.YtbcncdpaigljeaaGreatDoor.Aw
open Go
set_option linter.unusedSimpArgs false
set_option linter.unusedVariables false
def wt (n : Nat) : Nat := if n = 0 then 0 else 32768 / 2 ^ n
def kraft : List Nat → Nat
 | [] => 0
 | n :: r => wt n + kraft r
theorem kraft_append {a b : List Nat} : kraft (a ++ b) = kraft a + kraft b := by
 induction a with
 | nil => simp [kraft]
 | cons x a ih => simp only [List.cons_append, kraft, ih]; omega
theorem wt_le {n : Nat} : wt n ≤ 32768 := by
 unfold wt; split
 · omega
 · exact Nat.div_le_self _ _
theorem kraft_le {l : List Nat} : kraft l ≤ 32768 * l.length := by
 induction l with
 | nil => simp [kraft]
 | cons x l ih => simp only [kraft, List.length_cons]; have := wt_le (n := x); omega
theorem kraft_snoc {l : List Nat} {k : Nat} (h : k < l.length) : kraft (l.take (k + 1)) = kraft (l.take k) + wt (l.getD k 0) := by
 rw [snocD (d := 0) h, kraft_append]; simp [kraft]
theorem kraft_take_le {l : List Nat} {k : Nat} : kraft (l.take k) ≤ 32768 * l.length := by
 refine Nat.le_trans kraft_le (Nat.mul_le_mul_left _ ?_)
 rw [List.length_take]; omega
set_option maxRecDepth 100000 in
theorem huff_taken_c [Tabs Tryz.prog] (nl : Bool) (l : List Nat) (hl : l.length ≤ 1000) (h15 : ∀ x ∈ l, x ≤ 15) : Con Tryz.prog n_huff_taken [.sl nl none (l.map nA)] (int (kraft l : Nat)) := by
 refine Con.of' mix Tryz.func134 rfl Tryz.ntmps134 e_huff_taken r_huff_taken (by simp) (by simp only [AV.free, AV.free.freeL, free_nA, Bool.and_self]) rfl ?_
 unfold s_huff_taken
 repeat (first | refine zS ?_ | exact zT)
 refine SWp.loop (α := Nat) (fun k => mk 20 0 [(3, int (kraft (l.take k) : Nat)), (6, .sl nl none (l.map nA)), (7, int l.length), (8, int k)] [])
   (fun k => k ≤ l.length) (fun k => l.length - k) 0 (Nat.zero_le _) (le_mk rfl ?_ ?_ ?_) ?_
 · exact Nat.le_refl _
 iterate 2 (case _ => (first | exact yU (ja3 @List.take_zero.{0} @kraft.eq_1 @kraft.eq_2) | refine yR (ja3 @List.take_zero.{0} @kraft.eq_1 @kraft.eq_2) ?_))
 rintro k hk -
 repeat (first | refine zS ?_ | exact zT)
 refine SWp.cond rfl (fun h => ?_) (fun h => ?_)
 · simp only [decide_eq_true_eq] at h
   have hkl : k < l.length := by omega
   have hs := kraft_snoc hkl
   have hle := kraft_take_le (l := l) (k := k)
   have hx15 : l.getD k 0 ≤ 15 := by
     have : l.getD k 0 = l[k] := by simp [List.getD, List.getElem?_eq_getElem hkl]
     rw [this]; exact h15 _ (List.getElem_mem hkl)
   obtain ⟨x, hx⟩ : ∃ x, x = l.getD k 0 := ⟨_, rfl⟩
   rw [← hx] at hs hx15
   obtain ⟨y, hy⟩ : ∃ y, y = kraft (l.take k) := ⟨_, rfl⟩
   rw [← hy] at hs hle
   by_cases c0 : x = 0
   · subst c0
     have e : kraft (l.take (k + 1)) = y := by rw [hs]; simp [wt]
     repeat (first | refine zR (ja3 iR hx.symm hy.symm) ?_ | exact zU (ja3 iR hx.symm hy.symm))
     refine At.of (k + 1) (by omega) (by omega) rfl rfl (Nat.le_refl _) ?_ ?_
     iterate 2 (case _ => (first | exact yU @e | refine yR @e ?_))
   · have d0 : decide ((0 : Int) < (x : Int)) = true := decide_eq_true (by omega)
     have hw : wt x = 32768 / 2 ^ x := by simp [wt, c0]
     have hw2 := wt_le (n := x)
     obtain ⟨z, hz⟩ : ∃ z, z = 32768 / 2 ^ x := ⟨_, rfl⟩
     rw [← hz] at hw
     rw [hw] at hw2
     have e : kraft (l.take (k + 1)) = y + z := by rw [hs, hw]
     repeat (first | refine zR (ja5 iR hx.symm hy.symm @d0 hz.symm) ?_ | exact zU (ja5 iR hx.symm hy.symm @d0 hz.symm))
     refine At.of (k + 1) (by omega) (by omega) rfl rfl (Nat.le_refl _) ?_ ?_
     iterate 2 (case _ => (first | exact yU @e | refine yR @e ?_))
 · simp only [decide_eq_false_iff_not] at h
   obtain rfl : k = l.length := by omega
   repeat (first | refine zR @List.take_length.{0} ?_ | exact zU @List.take_length.{0})
def okLen (x : Int) : Bool := decide (0 ≤ x ∧ x ≤ 15)
def chk (l : List Int) : Nat := if 320 < l.length then 4 else if l.all okLen = false then 1 else if 32768 < kraft (l.map Int.toNat) then 3 else 0
theorem all_takeI {l : List Int} {p : Int → Bool} {k : Nat} (hk : k < l.length) (h : (l.take k).all p = true) : (l.take (k + 1)).all p = p (l.getD k 0) := by
 rw [snocD (d := 0) hk, List.all_append, h]; simp
theorem all_notI {l : List Int} {p : Int → Bool} {k : Nat} (hk : k < l.length) (h : p (l.getD k 0) = false) : l.all p = false := by
 rw [List.all_eq_false]
 refine ⟨l[k], List.getElem_mem hk, ?_⟩
 simp [List.getD, List.getElem?_eq_getElem hk] at h
 simp [h]
theorem okLens {l : List Int} (h : l.all okLen = true) : l.map int = (l.map Int.toNat).map nA ∧ ∀ x ∈ l.map Int.toNat, x ≤ 15 := by
 have h2 : ∀ x ∈ l, 0 ≤ x ∧ x ≤ 15 := fun x hx => of_decide_eq_true (List.all_eq_true.1 h x hx)
 constructor
 · rw [List.map_map]
   refine List.map_congr_left fun x hx => ?_
   have := h2 x hx
   show AV.sc (.int .i64 x) = AV.sc (.int .i64 ((x.toNat : Nat) : Int))
   rw [Int.toNat_of_nonneg this.1]
 · intro y hy
   obtain ⟨x, hx, rfl⟩ := List.mem_map.1 hy
   have := h2 x hx
   omega
set_option maxRecDepth 100000 in
theorem huff_Check_c [Tabs Tryz.prog] (nl : Bool) (l : List Int) (hl : l.length ≤ 1000) : Con Tryz.prog n_huff_Check [.sl nl none (l.map int)] (int (chk l : Nat)) := by
 refine Con.of' mix Tryz.func132 rfl Tryz.ntmps132 e_huff_Check r_huff_Check (by simp) (by simp only [AV.free, AV.free.freeL, free_zA, Bool.and_self]) rfl ?_
 unfold s_huff_Check
 by_cases c1 : 320 < l.length
 · have d1 : decide ((320 : Int) < (l.length : Int)) = true := decide_eq_true (by omega)
   have hc : chk l = 4 := if_pos c1
   repeat (first | refine zR (ja2 @d1 @hc) ?_ | exact zU (ja2 @d1 @hc))
 have d1 : decide ((320 : Int) < (l.length : Int)) = false := decide_eq_false (by omega)
 repeat (first | refine zR @d1 ?_ | exact zU @d1)
 refine SWp.loop (α := Nat) (fun k => mk 24 0 [(0, .sl nl none (l.map int)), (8, .sl nl none (l.map int)), (9, int l.length), (10, int k)] [])
   (fun k => k ≤ l.length ∧ (l.take k).all okLen = true) (fun k => l.length - k) 0 ⟨Nat.zero_le _, by simp⟩ (le_mk rfl ?_ ?_ ?_) ?_
 · exact Nat.le_refl _
 iterate 2 (case _ => (first | exact yT | refine yS ?_))
 rintro k ⟨hk, ha⟩ -
 repeat (first | refine zS ?_ | exact zT)
 refine SWp.cond rfl (fun h => ?_) (fun h => ?_)
 · simp only [decide_eq_true_eq] at h
   have hkl : k < l.length := by omega
   have hs := all_takeI hkl ha
   have hbad := all_notI (p := okLen) hkl
   obtain ⟨x, hx⟩ : ∃ x, x = l.getD k 0 := ⟨_, rfl⟩
   rw [← hx] at hs hbad
   by_cases c2 : x < 0
   · have d2 := decide_eq_true c2
     have hc : chk l = 1 := by unfold chk; rw [if_neg c1, if_pos (hbad (decide_eq_false (by omega)))]
     repeat (first | refine zR (ja4 iR hx.symm @d2 @hc) ?_ | exact zU (ja4 iR hx.symm @d2 @hc))
   have d2 := decide_eq_false c2
   by_cases c3 : 15 < x
   · have d3 := decide_eq_true c3
     have hc : chk l = 1 := by unfold chk; rw [if_neg c1, if_pos (hbad (decide_eq_false (by omega)))]
     repeat (first | refine zR (ja5 iR hx.symm @d2 @d3 @hc) ?_ | exact zU (ja5 iR hx.symm @d2 @d3 @hc))
   have d3 := decide_eq_false c3
   repeat (first | refine zR (ja4 iR hx.symm @d2 @d3) ?_ | exact zU (ja4 iR hx.symm @d2 @d3))
   refine At.of (k + 1) ⟨by omega, by rw [hs]; exact decide_eq_true (by omega)⟩ (by omega) rfl rfl (Nat.le_refl _) ?_ ?_
   iterate 2 (case _ => (first | exact yT | refine yS ?_))
 · simp only [decide_eq_false_iff_not] at h
   obtain rfl : k = l.length := by omega
   rw [List.take_length] at ha
   obtain ⟨hm, h15⟩ := okLens ha
   have ht := huff_taken_c nl (l.map Int.toNat) (by rw [List.length_map]; exact hl) h15
   rw [← hm] at ht
   repeat (first | refine zS ?_ | exact zT)
   refine goC_p _ (.inl ⟨by simp only [AV.free, AV.free.freeL, free_zA, Bool.and_self], ht⟩) ?_
   by_cases c4 : 32768 < kraft (l.map Int.toNat)
   · have d4 : decide ((32768 : Int) < (kraft (l.map Int.toNat) : Nat)) = true := decide_eq_true (by omega)
     have hc : chk l = 3 := by unfold chk; rw [if_neg c1, if_neg (by rw [ha]; simp), if_pos c4]
     repeat (first | refine zR (ja2 @d4 @hc) ?_ | exact zU (ja2 @d4 @hc))
   · have d4 : decide ((32768 : Int) < (kraft (l.map Int.toNat) : Nat)) = false := decide_eq_false (by omega)
     have hc : chk l = 0 := by unfold chk; rw [if_neg c1, if_neg (by rw [ha]; simp), if_neg c4]
     repeat (first | refine zR (ja2 @d4 @hc) ?_ | exact zU (ja2 @d4 @hc))
theorem chk_ok {l : List Int} (h : chk l = 0) : l.length ≤ 320 ∧ l.all okLen = true ∧ kraft (l.map Int.toNat) ≤ 32768 := by
 unfold chk at h
 split at h
 · omega
 · split at h
   · omega
   · rename_i h1 h2
     split at h
     · omega
     · exact ⟨by omega, by simpa using h2, by omega⟩
end Go.Proofs.YtbcncdpaigljeaaGreatDoor.Aw
namespace Go.Proofs.YtbcncdpaigljeaaGreatDoor.Aw
open Go
set_option linter.unusedSimpArgs false
set_option linter.unusedVariables false
def r16 (f : Nat → Nat) : List Nat := (List.range 16).map f
theorem length_r16 {f : Nat → Nat} : (r16 f).length = 16 := by simp [r16]
theorem r16_get {f : Nat → Nat} {k : Nat} (h : k < 16) : (r16 f).getD k 0 = f k := by simp [r16, List.getD, h]
theorem r16_set {f g : Nat → Nat} {k x : Nat} (h : ∀ i, i < 16 → g i = if i = k then x else f i) : (r16 f).set k x = r16 g := by
 apply List.ext_getElem?
 intro i
 rw [List.getElem?_set, length_r16]
 by_cases hi : i < 16
 · have h1 : (r16 f)[i]? = some (f i) := by simp [r16, hi]
   have h2 : (r16 g)[i]? = some (g i) := by simp [r16, hi]
   rw [h1, h2, h i hi]
   by_cases e : k = i
   · subst e; simp [hi]
   · rw [if_neg e, if_neg (fun h => e h.symm)]
 · have h1 : (r16 f)[i]? = none := List.getElem?_eq_none (by rw [length_r16]; omega)
   have h2 : (r16 g)[i]? = none := List.getElem?_eq_none (by rw [length_r16]; omega)
   rw [h1, h2]
   split
   · rename_i e; subst e; rw [if_neg hi]
   · rfl
theorem r16_congr {f g : Nat → Nat} (h : ∀ i, i < 16 → f i = g i) : r16 f = r16 g := List.map_congr_left fun i hi => h i (List.mem_range.1 hi)
theorem count_snoc {l : List Nat} {k n : Nat} (h : k < l.length) : (l.take (k + 1)).count n = (l.take k).count n + (if n = l.getD k 0 then 1 else 0) := by
 rw [snocD (d := 0) h, List.count_append]
 congr 1
 by_cases e : n = l.getD k 0
 · rw [if_pos e, ← e]; simp
 · rw [if_neg e, List.count_singleton]; simp; exact fun h => e h.symm
theorem count_take_le {l : List Nat} {k n : Nat} : (l.take k).count n ≤ l.length := Nat.le_trans List.count_le_length (by rw [List.length_take]; omega)
def cn (l : List Nat) (n : Nat) : Nat := if n = 0 then 0 else l.count n
def fr (l : List Nat) : Nat → Nat
 | 0 => 0
 | n + 1 => 2 * (fr l n + cn l n)
theorem cn_le {l : List Nat} {n : Nat} : cn l n ≤ l.length := by
 unfold cn; split
 · omega
 · exact List.count_le_length
theorem fr_le {l : List Nat} (hl : l.length ≤ 320) : ∀ {n : Nat}, fr l n + 640 ≤ 640 * 2 ^ n
 | 0 => by simp [fr]
 | n + 1 => by
   have h1 := fr_le hl (n := n)
   have h2 := cn_le (l := l) (n := n)
   simp only [fr, Nat.pow_succ]; omega
theorem fr_lt {l : List Nat} (hl : l.length ≤ 320) {n : Nat} (hn : n ≤ 15) : fr l n ≤ 20971520 := by
 have h1 := fr_le hl (n := n)
 have h2 : 2 ^ n ≤ 32768 := two_pow_le (n := n) (m := 15) hn
 omega
set_option maxRecDepth 100000 in
theorem huff_firstRows_c [Tabs Tryz.prog] (nl : Bool) (l : List Nat) (hl : l.length ≤ 320) (h15 : ∀ x ∈ l, x ≤ 15) : Con Tryz.prog n_huff_firstRows [.sl nl none (l.map nA)] (.agg ((r16 (fr l)).map nA)) := by
 refine Con.of' mix Tryz.func133 rfl Tryz.ntmps133 e_huff_firstRows r_huff_firstRows (by simp) (by simp only [AV.free, AV.free.freeL, free_nA, Bool.and_self]) (by simp only [AV.free, free_nA]) ?_
 unfold s_huff_firstRows
 obtain ⟨Z, hZ⟩ : ∃ Z, Z = r16 fun _ => 0 := ⟨_, rfl⟩
 have hZl : Z.length = 16 := by rw [hZ, length_r16]
 have hz : (List.replicate 16 (Value.int .i64 0)).map AV.sc = Z.map nA := by rw [hZ]; rfl
 have hZd : Z.drop 16 = [] := List.drop_of_length_le (by omega)
 repeat (first | refine xR @hz ?_ | exact xU @hz)
 refine SWp.loop (α := Nat) (fun k => mk 37 2 [(2, .op 2 0 0), (3, .op 3 1 0), (8, .sl nl none (l.map nA)), (9, int l.length), (10, int k)] [(2, 0, .row false (Z.map nA)), (3, 1, .row false ((r16 fun n => (l.take k).count n).map nA))])
   (fun k => k ≤ l.length) (fun k => l.length - k) 0 (Nat.zero_le _) (le_mk rfl ?_ ?_ ?_) ?_
 · exact Nat.le_refl _
 iterate 2 (case _ => (first | exact vU (ja3 @List.take_zero.{0} @List.count_nil.{0} @hZ) | refine vR (ja3 @List.take_zero.{0} @List.count_nil.{0} @hZ) ?_))
 rintro k hk -
 repeat (first | refine xS ?_ | exact xT)
 refine SWp.cond rfl (fun h => ?_) (fun h => ?_)
 · simp only [decide_eq_true_eq] at h
   have hkl : k < l.length := by omega
   have hx15 : l.getD k 0 ≤ 15 := by
     have : l.getD k 0 = l[k] := by simp [List.getD, List.getElem?_eq_getElem hkl]
     rw [this]; exact h15 _ (List.getElem_mem hkl)
   have hcs : ∀ n, (l.take (k + 1)).count n = (l.take k).count n + (if n = l.getD k 0 then 1 else 0) := fun n => count_snoc hkl
   obtain ⟨x, hx⟩ : ∃ x, x = l.getD k 0 := ⟨_, rfl⟩
   rw [← hx] at hx15 hcs
   have hg := r16_get (f := fun n => (l.take k).count n) (k := x) (by omega)
   have hcl := count_take_le (l := l) (k := k) (n := x)
   have hset := r16_set (f := fun n => (l.take k).count n) (g := fun n => (l.take (k + 1)).count n) (k := x) (x := (l.take k).count x + 1) (fun i hi => by
     show (l.take (k + 1)).count i = _
     rw [hcs]
     by_cases e : i = x
     · subst e; simp
     · simp [e])
   obtain ⟨S, hS⟩ : ∃ S, S = r16 fun n => (l.take k).count n := ⟨_, rfl⟩
   have hSl : S.length = 16 := by rw [hS, length_r16]
   obtain ⟨y, hy⟩ : ∃ y, y = (l.take k).count x := ⟨_, rfl⟩
   rw [← hS] at hset hg ⊢
   simp only [← hy] at hg hset hcl
   have hsp := splice_nA (l := S) (k := x) (x := y + 1) (by omega)
   rw [hset] at hsp
   repeat (first | refine xR (ja3 iR hx.symm @hg) ?_ | exact xU (ja3 iR hx.symm @hg))
   refine At.of (k + 1) (by omega) (by omega) rfl rfl (Nat.le_refl _) ?_ ?_
   · (first | exact vT | refine vS ?_)
   · (first | exact vT | refine vS ?_)
     exact hsp
 · simp only [decide_eq_false_iff_not] at h
   obtain rfl : k = l.length := by omega
   rw [List.take_length]
   have hset := r16_set (f := fun n => l.count n) (g := cn l) (k := 0) (x := 0) (fun i hi => rfl)
   obtain ⟨S0, hS0⟩ : ∃ S, S = r16 fun n => l.count n := ⟨_, rfl⟩
   have hS0l : S0.length = 16 := by rw [hS0, length_r16]
   rw [← hS0] at hset ⊢
   obtain ⟨S, hS⟩ : ∃ S, S = r16 (cn l) := ⟨_, rfl⟩
   have hSl : S.length = 16 := by rw [hS, length_r16]
   rw [← hS] at hset
   have hsp := splice_nA (l := S0) (k := 0) (x := 0) (by omega)
   rw [hset] at hsp
   simp only [List.take_zero, List.map_nil, List.nil_append] at hsp
   have hsp' : AV.sc (.int .i64 0) :: (S0.drop 1).map nA = S.map nA := hsp
   repeat (first | refine xR (ja3 iR @hz @hsp') ?_ | exact xU (ja3 iR @hz @hsp'))
   refine SWp.loop (α := Nat) (fun k => mk 37 3 [(2, .op 2 0 0), (3, .op 3 1 0), (6, .op 6 2 0), (21, int k)] [(2, 0, .row false (Z.map nA)), (3, 1, .row false (S.map nA)), (6, 2, .row false ((r16 fun n => if n ≤ k then fr l n else 0).map nA))])
     (fun k => k ≤ 15) (fun k => 15 - k) 0 (Nat.zero_le _) (le_mk rfl ?_ ?_ ?_) ?_
   · exact Nat.le_refl _
   · (first | exact vT | refine vS ?_)
   · (first | exact vT | refine vS ?_)
     rw [hZ]
     exact congrArg (List.map nA) (r16_congr fun i _ => by
       by_cases e : i ≤ 0
       · obtain rfl : i = 0 := by omega
         rfl
       · rw [if_neg e])
   rintro k hk -
   repeat (first | refine xS ?_ | exact xT)
   refine SWp.cond rfl (fun h => ?_) (fun h => ?_)
   · simp only [decide_eq_true_eq] at h
     have hk15 : k < 15 := by omega
     have hg := r16_get (f := fun n => if n ≤ k then fr l n else 0) (k := k) (by omega)
     rw [if_pos (Nat.le_refl _)] at hg
     have hgs : S.getD k 0 = cn l k := by rw [hS]; exact r16_get (by omega)
     have hfl := fr_lt hl (n := k) (by omega)
     have hcl := cn_le (l := l) (n := k)
     have hset := r16_set (f := fun n => if n ≤ k then fr l n else 0) (g := fun n => if n ≤ k + 1 then fr l n else 0) (k := k + 1) (x := (fr l k + cn l k) * 2) (fun i hi => by
       show (if i ≤ k + 1 then fr l i else 0) = if i = k + 1 then _ else if i ≤ k then fr l i else 0
       by_cases e : i = k + 1
       · subst e; rw [if_pos (Nat.le_refl _), if_pos rfl, fr, Nat.mul_comm]
       · rw [if_neg e]
         by_cases e2 : i ≤ k
         · rw [if_pos e2, if_pos (by omega)]
         · rw [if_neg e2, if_neg (by omega)])
     obtain ⟨G, hG⟩ : ∃ G, G = r16 fun n => if n ≤ k then fr l n else 0 := ⟨_, rfl⟩
     have hGl : G.length = 16 := by rw [hG, length_r16]
     obtain ⟨x, hx⟩ : ∃ x, x = fr l k := ⟨_, rfl⟩
     obtain ⟨y, hy⟩ : ∃ y, y = cn l k := ⟨_, rfl⟩
     rw [← hx] at hg hfl hset
     rw [← hy] at hgs hcl hset
     rw [← hG] at hset hg ⊢
     have hsp := splice_nA (l := G) (k := k + 1) (x := (x + y) * 2) (by omega)
     rw [hset] at hsp
     repeat (first | refine xR (ja3 iR @hg @hgs) ?_ | exact xU (ja3 iR @hg @hgs))
     refine At.of (k + 1) (by omega) (by omega) rfl rfl (Nat.le_refl _) ?_ ?_
     · (first | exact vT | refine vS ?_)
     · (first | exact vT | refine vS ?_)
       exact hsp
   · simp only [decide_eq_false_iff_not] at h
     obtain rfl : k = 15 := by omega
     have hr : (r16 fun n => if n ≤ 15 then fr l n else 0) = r16 (fr l) := r16_congr fun i hi => if_pos (by omega)
     rw [hr]
     obtain ⟨F, hF⟩ : ∃ F, F = r16 (fr l) := ⟨_, rfl⟩
     have hFl : F.length = 16 := by rw [hF, length_r16]
     rw [← hF]
     repeat (first | refine xR (ja3 iR @hFl @hZd) ?_ | exact xU (ja3 iR @hFl @hZd))
def codeOf (l : List Nat) (i : Nat) : Nat := if l.getD i 0 = 0 then 0 else fr l (l.getD i 0) + (l.take i).count (l.getD i 0)
def codesL (l : List Nat) : List Nat := (List.range l.length).map (codeOf l)
theorem length_codesL {l : List Nat} : (codesL l).length = l.length := by simp [codesL]
theorem zerosN {n : Nat} : (List.replicate n [AV.sc (.int .i64 0)]).flatten = (List.replicate n 0).map nA := by
 induction n with
 | zero => rfl
 | succ n ih => simp only [List.replicate_succ, List.flatten_cons, ih, List.map_cons]; rfl
def codesK (l : List Nat) (k : Nat) : List Nat := (List.range l.length).map fun i => if i < k then codeOf l i else 0
theorem length_codesK {l : List Nat} {k : Nat} : (codesK l k).length = l.length := by simp [codesK]
theorem codesK_zero {l : List Nat} : codesK l 0 = List.replicate l.length 0 := by
 apply List.ext_getElem?
 intro i
 by_cases h : i < l.length
 · simp [codesK, h]
 · rw [List.getElem?_eq_none (by rw [length_codesK]; omega), List.getElem?_eq_none (by simp; omega)]
theorem codesK_all {l : List Nat} : codesK l l.length = codesL l := List.map_congr_left fun i hi => by rw [if_pos (List.mem_range.1 hi)]
theorem codesK_set {l : List Nat} {k : Nat} (h : k < l.length) : (codesK l k).set k (codeOf l k) = codesK l (k + 1) := by
 apply List.ext_getElem?
 intro i
 rw [List.getElem?_set, length_codesK]
 by_cases hi : i < l.length
 · have h1 : (codesK l k)[i]? = some (if i < k then codeOf l i else 0) := by simp [codesK, hi]
   have h2 : (codesK l (k + 1))[i]? = some (if i < k + 1 then codeOf l i else 0) := by simp [codesK, hi]
   rw [h1, h2]
   by_cases e : k = i
   · subst e; simp [h]
   · rw [if_neg e]
     by_cases e2 : i < k
     · rw [if_pos e2, if_pos (by omega)]
     · rw [if_neg e2, if_neg (by omega)]
 · have h1 : (codesK l k)[i]? = none := List.getElem?_eq_none (by rw [length_codesK]; omega)
   have h2 : (codesK l (k + 1))[i]? = none := List.getElem?_eq_none (by rw [length_codesK]; omega)
   rw [h1, h2, if_neg (by omega)]
theorem codesK_same {l : List Nat} {k : Nat} (h : k < l.length) (h0 : l.getD k 0 = 0) : codesK l (k + 1) = codesK l k := by
 refine List.map_congr_left fun i hi => ?_
 by_cases e : i = k
 · subst e; rw [if_pos (by omega), if_neg (by omega), codeOf, if_pos h0]
 · by_cases e2 : i < k
   · rw [if_pos e2, if_pos (by omega)]
   · rw [if_neg e2, if_neg (by omega)]
def nxK (l : List Nat) (k : Nat) (n : Nat) : Nat := if n = 0 then 0 else fr l n + (l.take k).count n
def st (l : List Nat) (n k : Nat) : List Nat := (List.range l.length).map fun i => if l.getD i 0 < n ∨ (l.getD i 0 = n ∧ i < k) then codeOf l i else l.getD i 0
end Go.Proofs.YtbcncdpaigljeaaGreatDoor.Aw
namespace Go.Proofs.YtbcncdpaigljeaaGreatDoor.Aw
open Go
set_option linter.unusedSimpArgs false
set_option linter.unusedVariables false
set_option maxRecDepth 100000 in
theorem huff_Codes_h [Tabs Tryz.prog] (nl : Bool) (li : List Int) (hc : chk li = 0) (l : List Nat) (hli : l = li.map Int.toNat) : HCon Tryz.prog n_huff_Codes [.sl nl none (li.map int)] [] (.tup [.own 18 2 none 0 l.length, int 0]) [(18, 2, .row false ((codesL l).map nA))] 3 := by
 obtain ⟨hlen, ha, hK⟩ := chk_ok hc
 obtain ⟨hm, h15⟩ := okLens ha
 rw [← hli] at hm h15 hK
 have hl : l.length ≤ 320 := by rw [hli, List.length_map]; exact hlen
 have hchk := huff_Check_c nl li (by omega)
 rw [hm, hc] at hchk
 rw [hm]
 clear hm ha hc
 refine HCon.of' mix Tryz.func124 rfl Tryz.ntmps124 e_huff_Codes r_huff_Codes (by simp) (by simp only [AV.gl.glL, AV.gl, and_true]; exact glL_of_free _ _ free_nA) (by simp) ?_
 unfold s_huff_Codes
 have hf : AV.free.freeL [.sl nl none (l.map nA)] = true := by simp only [AV.free, AV.free.freeL, free_nA, Bool.and_self]
 obtain ⟨Z, hZ⟩ : ∃ Z, Z = r16 fun _ => 0 := ⟨_, rfl⟩
 have hZl : Z.length = 16 := by rw [hZ, length_r16]
 have hz : (List.replicate 16 (Value.int .i64 0)).map AV.sc = Z.map nA := by rw [hZ]; rfl
 have hZd : Z.drop 16 = [] := List.drop_of_length_le (by omega)
 have hfr := huff_firstRows_c nl l hl h15
 have hF0 : r16 (fr l) = r16 (nxK l 0) := r16_congr fun i _ => by
   unfold nxK
   by_cases e : i = 0
   · subst e; rfl
   · rw [if_neg e]; simp
 obtain ⟨F, hF⟩ : ∃ F, F = r16 (fr l) := ⟨_, rfl⟩
 have hFl : F.length = 16 := by rw [hF, length_r16]
 rw [← hF] at hfr
 repeat (first | refine zS ?_ | exact zT)
 refine goC_p _ (.inl ⟨hf, hchk⟩) ?_
 repeat (first | refine zS ?_ | exact zT)
 refine goC_p _ (.inl ⟨hf, hfr⟩) ?_
 repeat (first | refine zR (ja5 iR @hz @hFl @hZd @zerosN) ?_ | exact zU (ja5 iR @hz @hFl @hZd @zerosN))
 have hcz : List.replicate l.length 0 = codesK l 0 := codesK_zero.symm
 refine SWp.loop (α := Nat) (fun k => mk 41 3 [(5, .op 5 1 0), (6, .own 18 2 none 0 l.length), (19, .sl nl none (l.map nA)), (20, int l.length), (21, int k)] [(5, 1, .row false ((r16 (nxK l k)).map nA)), (18, 2, .row false ((codesK l k).map nA))])
   (fun k => k ≤ l.length) (fun k => l.length - k) 0 (Nat.zero_le _) (le_mk rfl ?_ ?_ ?_) ?_
 · exact Nat.le_refl _
 iterate 2 (case _ => (first | exact yU (ja3 hF0.symm hF.symm @hcz) | refine yR (ja3 hF0.symm hF.symm @hcz) ?_))
 rintro k hk -
 repeat (first | refine zS ?_ | exact zT)
 refine SWp.cond rfl (fun h => ?_) (fun h => ?_)
 · simp only [decide_eq_true_eq] at h
   have hkl : k < l.length := by omega
   have hx15 : l.getD k 0 ≤ 15 := by
     have : l.getD k 0 = l[k] := by simp [List.getD, List.getElem?_eq_getElem hkl]
     rw [this]; exact h15 _ (List.getElem_mem hkl)
   have hcs : ∀ n, (l.take (k + 1)).count n = (l.take k).count n + (if n = l.getD k 0 then 1 else 0) := fun n => count_snoc hkl
   have hcd : l.getD k 0 ≠ 0 → codeOf l k = nxK l k (l.getD k 0) := fun h => by unfold codeOf nxK; simp [h]
   have hsm := codesK_same hkl
   have hst := codesK_set hkl
   obtain ⟨x, hx⟩ : ∃ x, x = l.getD k 0 := ⟨_, rfl⟩
   rw [← hx] at hx15 hcs hcd hsm
   by_cases c0 : x = 0
   · have hsame : r16 (nxK l (k + 1)) = r16 (nxK l k) := r16_congr fun i _ => by
       unfold nxK
       by_cases e : i = 0
       · rw [if_pos e, if_pos e]
       · rw [if_neg e, if_neg e, hcs, if_neg (by omega)]; rfl
     have hsm := hsm c0
     subst c0
     repeat (first | refine zR (ja2 iR hx.symm) ?_ | exact zU (ja2 iR hx.symm))
     refine At.of (k + 1) (by omega) (by omega) rfl rfl (Nat.le_refl _) ?_ ?_
     iterate 2 (case _ => (first | exact yU (ja2 @hsame @hsm) | refine yR (ja2 @hsame @hsm) ?_))
   · have d0 : decide ((0 : Int) < (x : Int)) = true := decide_eq_true (by omega)
     have hg := r16_get (f := nxK l k) (k := x) (by omega)
     have hfl := fr_lt hl (n := x) hx15
     have hcl := count_take_le (l := l) (k := k) (n := x)
     have hyl : nxK l k x ≤ 20971840 := by unfold nxK; rw [if_neg c0]; omega
     have hset := r16_set (f := nxK l k) (g := nxK l (k + 1)) (k := x) (x := nxK l k x + 1) (fun i hi => by
       unfold nxK
       by_cases e : i = 0
       · subst e; rw [if_pos rfl, if_neg (fun h => c0 h.symm)]; rfl
       · rw [if_neg e, hcs]
         by_cases e2 : i = x
         · subst e2; simp [e, Nat.add_assoc]
         · simp [e, e2])
     rw [hcd c0] at hst
     obtain ⟨N, hN⟩ : ∃ N, N = r16 (nxK l k) := ⟨_, rfl⟩
     have hNl : N.length = 16 := by rw [hN, length_r16]
     obtain ⟨C, hC⟩ : ∃ C, C = codesK l k := ⟨_, rfl⟩
     have hCl : C.length = l.length := by rw [hC, length_codesK]
     obtain ⟨y, hy⟩ : ∃ y, y = nxK l k x := ⟨_, rfl⟩
     rw [← hN] at hset hg ⊢
     rw [← hC] at hst ⊢
     rw [← hy] at hg hset hyl hst
     have hsp1 := splice_nA (l := C) (k := k) (x := y) (by omega)
     rw [hst] at hsp1
     have hsp2 := splice_nA (l := N) (k := x) (x := y + 1) (by omega)
     rw [hset] at hsp2
     repeat (first | refine zR (ja4 iR hx.symm @d0 @hg) ?_ | exact zU (ja4 iR hx.symm @d0 @hg))
     refine At.of (k + 1) (by omega) (by omega) rfl rfl (Nat.le_refl _) ?_ ?_
     · (first | exact yT | refine yS ?_)
     · (first | exact yT | refine yS ?_)
       exact ⟨hsp2, hsp1⟩
 · simp only [decide_eq_false_iff_not] at h
   obtain rfl : k = l.length := by omega
   rw [codesK_all]
   have hlc := length_codesL (l := l)
   repeat (first | refine zR iR ?_ | exact zU iR)
theorem huff_Codes_c [Tabs Tryz.prog] (nl : Bool) (li : List Int) (hc : chk li = 0) (l : List Nat) (hli : l = li.map Int.toNat) : Con Tryz.prog n_huff_Codes [.sl nl none (li.map int)] (.tup [.sl false none ((codesL l).map nA), int 0]) := by
 have hlc := length_codesL (l := l)
 refine (huff_Codes_h nl li hc l hli).con _ ?_ (by simp only [AV.free, AV.free.freeL, free_nA, int, Bool.and_self])
 (first | exact yU iR | refine yR iR ?_)
end Go.Proofs.YtbcncdpaigljeaaGreatDoor.Aw
namespace Go.Proofs.YtbcncdpaigljeaaGreatDoor.Aw
open Go
set_option linter.unusedSimpArgs false
set_option linter.unusedVariables false
def u64 (n : Nat) : AV := .sc (.int .u64 (n : Int))
theorem bits_Mul64_c [Tabs Tryz.prog] (k : Nat) (hk : k < 1000000) : Con Tryz.prog n_bits_Mul64 [.sc (.int .u64 1), .sc (.int .u64 (k : Int))] (.tup [.sc (.int .u64 0), .sc (.int .u64 (k : Int))]) := by
 refine Con.of' mix Tryz.func148 rfl Tryz.ntmps148 e_bits_Mul64 r_bits_Mul64 (by simp) rfl rfl ?_
 unfold s_bits_Mul64
 have h1 : k &&& 4294967295 = k := by
   have := Nat.and_two_pow_sub_one_eq_mod k 32
   simp only [Nat.reducePow, Nat.reduceSub] at this
   rw [this, Nat.mod_eq_of_lt (by omega)]
 have h2 : k / 4294967296 = 0 := Nat.div_eq_of_lt (by omega)
 repeat (first | refine xR (ja5 @h1 @h2 @wrap_u64_id3 @Int.one_mul @Int.zero_mul) ?_ | exact xU (ja5 @h1 @h2 @wrap_u64_id3 @Int.one_mul @Int.zero_mul))
theorem bits_Mul_c [Tabs Tryz.prog] (k : Nat) (hk : k < 1000000) : Con Tryz.prog n_bits_Mul [.sc (.int .u64 1), .sc (.int .u64 (k : Int))] (.tup [.sc (.int .u64 0), .sc (.int .u64 (k : Int))]) := by
 refine Con.of' mix Tryz.func126 rfl Tryz.ntmps126 e_bits_Mul r_bits_Mul (by simp) rfl rfl ?_
 unfold s_bits_Mul
 repeat (first | refine xS ?_ | exact xT)
 refine goC_p _ (.inl ⟨rfl, bits_Mul64_c k hk⟩) ?_
 repeat (first | refine xS ?_ | exact xT)
def rep0 (x n k : Nat) : List Nat := List.replicate n x ++ List.replicate (k - n) 0
theorem length_rep0 {x n k : Nat} (h : n ≤ k) : (rep0 x n k).length = k := by simp [rep0]; omega
theorem rep0_all {x k : Nat} : rep0 x k k = List.replicate k x := by simp [rep0]
theorem rep0_zero {x k : Nat} : rep0 x 0 k = List.replicate k 0 := by simp [rep0]
theorem rep0_take {x n k m : Nat} (h : m ≤ n) : (rep0 x n k).take m = List.replicate m x := by
 rw [rep0, List.take_append_of_le_length (by simp; exact h), List.take_replicate, Nat.min_eq_left h]
theorem splice_rep0 {x n m k : Nat} (h : n + m ≤ k) : splice n ((List.replicate m x).map nA) ((rep0 x n k).map nA) = (rep0 x (n + m) k).map nA := by
 unfold splice
 rw [← List.map_take, ← List.map_drop, ← List.map_append, ← List.map_append]
 congr 1
 simp only [rep0, List.length_map, List.length_replicate]
 rw [List.take_append_of_le_length (by simp), List.take_replicate, Nat.min_self, List.drop_append, List.drop_of_length_le (by simp), List.nil_append, List.length_replicate, List.drop_replicate, List.replicate_append_replicate]
 congr 2
 omega
set_option maxRecDepth 100000 in
theorem slices_Repeat_c [Tabs Tryz.prog] (x k : Nat) (h0 : 0 < k) (hk : k ≤ 100000) : Con Tryz.prog n_slices_Repeatintint [.sl false none [.sc (.int .i64 (x : Int))], int (k : Int)] (.sl false none ((List.replicate k x).map nA)) := by
 refine Con.of' mix Tryz.func88 rfl Tryz.ntmps88 e_slices_Repeatintint r_slices_Repeatintint (by simp) rfl (by simp only [AV.free, free_nA]) ?_
 unfold s_slices_Repeatintint
 have d1 : decide ((k : Int) < 0) = false := decide_eq_false (by omega)
 have d2 : decide ((9223372036854775807 : Int) < (k : Int)) = false := decide_eq_false (by omega)
 repeat (first | refine xR (ja3 @d1 @d2 @wrap_u64_id3) ?_ | exact xU (ja3 @d1 @d2 @wrap_u64_id3))
 refine goC_p _ (.inl ⟨rfl, bits_Mul_c k (by omega)⟩) ?_
 have hz : (List.replicate k [AV.sc (.int .i64 0)]).flatten = (rep0 x 0 k).map nA := by rw [zerosN, rep0_zero]
 have hl := length_rep0 (x := x) (n := 0) (k := k) (by omega)
 have hs : (List.replicate 1 x).map nA ++ List.drop 1 ((rep0 x 0 k).map nA) = (rep0 x 1 k).map nA := by have := splice_rep0 (x := x) (n := 0) (m := 1) (k := k) (by omega); rwa [splice, List.take_zero, List.nil_append, List.length_map, List.length_replicate, Nat.zero_add] at this
 have h1 : ([AV.sc (.int .i64 (x : Int))]).take k = (List.replicate 1 x).map nA := by
   obtain ⟨k, rfl⟩ : ∃ j, k = j + 1 := ⟨k - 1, by omega⟩
   simp [nA]
 repeat (first | refine xR (ja8 @d1 @d2 @wrap_u64_id3 @hz @hl @h1 @List.length_replicate.{0} @hs) ?_ | exact xU (ja8 @d1 @d2 @wrap_u64_id3 @hz @hl @h1 @List.length_replicate.{0} @hs))
 refine SWp.loop (α := Nat) (fun n => mk 48 1 [(7, .own 30 0 none 0 k), (8, int (n : Int))] [(30, 0, .row false ((rep0 x n k).map nA))])
   (fun n => 1 ≤ n ∧ n ≤ k) (fun n => k - n) 1 ⟨by omega, by omega⟩ (le_mk rfl ?_ ?_ ?_) ?_
 · exact Nat.le_refl _
 iterate 2 (case _ => (first | exact vT | refine vS ?_))
 rintro n ⟨hn1, hn⟩ -
 have hl := length_rep0 (x := x) (n := n) (k := k) hn
 obtain ⟨m, hm⟩ : ∃ m, m = min n (k - n) := ⟨_, rfl⟩
 have hmn : n + m ≤ k := by omega
 have hs := splice_rep0 (x := x) (n := n) (m := m) (k := k) hmn
 rw [splice, List.length_map, List.length_replicate, List.append_assoc, take_nA, drop_nA] at hs
 obtain ⟨R, hR⟩ : ∃ R, R = rep0 x n k := ⟨_, rfl⟩
 obtain ⟨Y, hY⟩ : ∃ Y, Y = List.replicate m x := ⟨_, rfl⟩
 have hYl : Y.length = m := by rw [hY, List.length_replicate]
 have ht : ((rep0 x n k).take n).take (k - n) = List.replicate m x := by
   rw [List.take_take, Nat.min_comm, ← hm, rep0_take (by omega)]
 rw [← hR] at hs ht hl ⊢
 rw [← hY] at hs ht
 have hn3 : min (R.take n).length (k - n) = m := by rw [List.length_take, hl]; omega
 repeat (first | refine xS ?_ | exact xT)
 refine SWp.cond rfl (fun h => ?_) (fun h => ?_)
 · simp only [decide_eq_true_eq] at h
   repeat (first | refine xR (ja6 @hl @take_nA @drop_nA @ht @hYl hm.symm) ?_ | exact xU (ja6 @hl @take_nA @drop_nA @ht @hYl hm.symm))
   refine At.of (n + m) (by omega) (by omega) rfl rfl (Nat.le_refl _) ?_ ?_
   iterate 2 (case _ => (first | exact vU (ja3 @hn3 hm.symm @hs) | refine vR (ja3 @hn3 hm.symm @hs) ?_))
 · simp only [decide_eq_false_iff_not] at h
   obtain rfl : n = k := by omega
   repeat (first | refine xR @free_nA ?_ | exact xU @free_nA)
   rw [hR, List.take_of_length_le (by rw [List.length_map, length_rep0 (Nat.le_refl _)]; exact Nat.le_refl _), rep0_all]
theorem slices_ConcatI4 [Tabs Tryz.prog] (A B C D : List Nat) (hA : 0 < A.length) (hl : A.length ≤ 1000 ∧ B.length ≤ 1000 ∧ C.length ≤ 1000 ∧ D.length ≤ 1000) :
   Con Tryz.prog n_slices_Concatintint [.sl false none [.sl false none (A.map nA), .sl false none (B.map nA), .sl false none (C.map nA), .sl false none (D.map nA)]] (.sl false none ((A ++ (B ++ (C ++ D))).map nA)) := by
 refine Con.of' mix Tryz.func87 rfl Tryz.ntmps87 e_slices_Concatintint r_slices_Concatintint (by simp) (by simp only [AV.free, AV.free.freeL, free_nA, Bool.and_self]) (by simp only [AV.free, free_nA]) ?_
 unfold s_slices_Concatintint
 obtain ⟨n, hn⟩ : ∃ n, n = A.length + B.length + C.length + D.length := ⟨_, rfl⟩
 have hc : (A.length : Int) + (B.length : Int) + (C.length : Int) + (D.length : Int) = (n : Int) := by omega
 have d1 : decide ((A.length : Int) < 0) = false := decide_eq_false (by omega)
 have d2 : decide ((A.length : Int) + (B.length : Int) < 0) = false := decide_eq_false (by omega)
 have d3 : decide ((A.length : Int) + (B.length : Int) + (C.length : Int) < 0) = false := decide_eq_false (by omega)
 have d4 : decide ((n : Int) < 0) = false := decide_eq_false (by omega)
 repeat (first | refine xR (ja5 @d1 @d2 @d3 @d4 @hc) ?_ | exact xU (ja5 @d1 @d2 @d3 @d4 @hc))
 refine SWp.unroll ?_
 repeat (first | refine xR (ja5 @d1 @d2 @d3 @d4 @hc) ?_ | exact xU (ja5 @d1 @d2 @d3 @d4 @hc))
 refine goC_h [] 1000 (slices_GrowI n (by omega) (by omega)) (by simp) (by simp) ?_ ?_ ?_
 iterate 2 (case _ => (first | exact vT | refine vS ?_))
 repeat (first | refine xS ?_ | exact xT)
 refine SWp.unroll ?_
 repeat (first | refine xR (ja2 @List.length_append.{0} @free_nA) ?_ | exact xU (ja2 @List.length_append.{0} @free_nA))
 exact List.take_of_length_le (by simp; omega)
theorem nA_zA {l : List Nat} : l.map nA = (l.map Int.ofNat).map int := by rw [List.map_map]; rfl
theorem toNat_ofNat {l : List Nat} : (l.map Int.ofNat).map Int.toNat = l := by
 rw [List.map_map]
 conv => rhs; rw [← List.map_id l]
 exact List.map_congr_left fun _ _ => rfl
theorem chkN {l : List Nat} (h15 : ∀ x ∈ l, x ≤ 15) (hl : l.length ≤ 320) : chk (l.map Int.ofNat) = if 32768 < kraft l then 3 else 0 := by
 unfold chk
 rw [toNat_ofNat, List.length_map, if_neg (by omega), if_neg]
 rw [Bool.not_eq_false, List.all_eq_true]
 intro x hx
 obtain ⟨y, hy, rfl⟩ := List.mem_map.1 hx
 have := h15 y hy
 exact decide_eq_true (by show 0 ≤ (y : Int) ∧ (y : Int) ≤ 15; omega)
end Go.Proofs.YtbcncdpaigljeaaGreatDoor.Aw
namespace Go.Proofs.YtbcncdpaigljeaaGreatDoor.Aw
open Go
set_option linter.unusedSimpArgs false
set_option linter.unusedVariables false
set_option maxRecDepth 100000 in
theorem cmp_isNaN_c [Tabs Tryz.prog] (x : Int) : Con Tryz.prog n_cmp_isNaNint [int x] (boo false) := by
 refine Con.of' mix Tryz.func162 rfl Tryz.ntmps162 e_cmp_isNaNint r_cmp_isNaNint (by simp) rfl rfl ?_
 unfold s_cmp_isNaNint
 have d1 : decide (x ≠ x) = false := by simp
 repeat (first | refine zR @d1 ?_ | exact zU @d1)
def cmpI (a b : Int) : Int := if a < b then -1 else if b < a then 1 else 0
set_option maxRecDepth 100000 in
theorem cmp_Compare_c [Tabs Tryz.prog] (x y : Int) : Con Tryz.prog n_cmp_Compareint [int x, int y] (int (cmpI x y)) := by
 refine Con.of' mix Tryz.func158 rfl Tryz.ntmps158 e_cmp_Compareint r_cmp_Compareint (by simp) rfl rfl ?_
 unfold s_cmp_Compareint
 repeat (first | refine zS ?_ | exact zT)
 refine goC_p _ (.inl ⟨rfl, cmp_isNaN_c x⟩) ?_
 repeat (first | refine zS ?_ | exact zT)
 refine goC_p _ (.inl ⟨rfl, cmp_isNaN_c y⟩) ?_
 repeat (first | refine zS ?_ | exact zT)
 refine SWp.cond rfl (fun h => ?_) (fun h => ?_)
 · simp only [decide_eq_true_eq] at h
   have e : cmpI x y = -1 := by unfold cmpI; rw [if_pos h]
   repeat (first | refine zR @e ?_ | exact zU @e)
 · simp only [decide_eq_false_iff_not] at h
   repeat (first | refine zS ?_ | exact zT)
   refine SWp.cond rfl (fun h' => ?_) (fun h' => ?_)
   · simp only [decide_eq_true_eq] at h'
     have e : cmpI x y = 1 := by unfold cmpI; rw [if_neg h, if_pos h']
     repeat (first | refine zR @e ?_ | exact zU @e)
   · simp only [decide_eq_false_iff_not] at h'
     have e : cmpI x y = 0 := by unfold cmpI; rw [if_neg h, if_neg h']
     repeat (first | refine zR @e ?_ | exact zU @e)
set_option maxRecDepth 100000 in
theorem huff_byCount_c [Tabs Tryz.prog] (x y : Int) (s t : AV) (hs : s.free = true) (ht : t.free = true) : Con Tryz.prog n_huff_byCount [.agg [int x, s], .agg [int y, t]] (int (cmpI x y)) := by
 refine Con.of' mix Tryz.func154 rfl Tryz.ntmps154 e_huff_byCount r_huff_byCount (by simp) (by simp only [AV.free, AV.free.freeL, int, hs, ht, Bool.and_self]) rfl ?_
 unfold s_huff_byCount
 repeat (first | refine zR (ja6 @cellsA.eq_1 @cellsA.eq_2 @cellsA.eq_3 @cellsA.eq_4 @cellsA.eq_5 @cellsA.eq_6) ?_ | exact zU (ja6 @cellsA.eq_1 @cellsA.eq_2 @cellsA.eq_3 @cellsA.eq_4 @cellsA.eq_5 @cellsA.eq_6))
 refine goC_p _ (.inl ⟨rfl, cmp_Compare_c x y⟩) ?_
 repeat (first | refine zS ?_ | exact zT)
end Go.Proofs.YtbcncdpaigljeaaGreatDoor.Aw
namespace Go.Proofs.YtbcncdpaigljeaaGreatDoor.Aw
open Go
set_option linter.unusedSimpArgs false
set_option linter.unusedVariables false
set_option maxRecDepth 100000 in
theorem slices_ConcatI [Tabs Tryz.prog] (n1 n2 : Bool) (xs ys : List AV) (hx : AV.free.freeL xs = true) (hy : AV.free.freeL ys = true) (hl : xs.length ≤ 100000) (hm : ys.length ≤ 100000) (h0 : 0 < xs.length + ys.length) :
   Con Tryz.prog n_slices_Concatintint [.sl false none [.sl n1 none xs, .sl n2 none ys]] (.sl false none (xs ++ ys)) := by
 refine Con.of' mix Tryz.func87 rfl Tryz.ntmps87 e_slices_Concatintint r_slices_Concatintint (by simp) (by simp only [AV.free, AV.free.freeL, hx, hy, Bool.and_self]) (by simp only [AV.free]; exact freeL_iff.2 fun x hx' => (List.mem_append.1 hx').elim (freeL_iff.1 hx x) (freeL_iff.1 hy x)) ?_
 unfold s_slices_Concatintint
 obtain ⟨n, hn⟩ : ∃ n, n = xs.length + ys.length := ⟨_, rfl⟩
 have hc : (xs.length : Int) + (ys.length : Int) = (n : Int) := by omega
 have d1 : decide ((xs.length : Int) < 0) = false := decide_eq_false (by omega)
 have d2 : decide ((n : Int) < 0) = false := decide_eq_false (by omega)
 repeat (first | refine zR (ja3 @d1 @hc @d2) ?_ | exact zU (ja3 @d1 @hc @d2))
 refine SWp.unroll ?_
 repeat (first | refine zR (ja3 @d1 @hc @d2) ?_ | exact zU (ja3 @d1 @hc @d2))
 refine goC_h [] 1000 (slices_GrowI n (by omega) (by omega)) (by simp) (by simp) ?_ ?_ ?_
 iterate 2 (case _ => (first | exact yT | refine yS ?_))
 repeat (first | refine zS ?_ | exact zT)
 have e1 : xs.length ≤ 70368744177664 := by omega
 refine SWp.unroll ?_
 repeat (first | refine zR @List.length_append.{0} ?_ | exact zU @List.length_append.{0})
 exact List.take_of_length_le (by simp)
set_option maxRecDepth 100000 in
theorem slices_GrowB [Tabs Tryz.prog] (n : Nat) (h0 : 0 < n) (hn : n ≤ 1000000) : HCon Tryz.prog n_slices_Growhuff_batchhuff_batch [.sc (.slice none 0 0), int n] [] (.own 22 1 (some 2) 0 0) [(22, 1, .row false [])] 2 := by
 refine HCon.of' mix Tryz.func159 rfl Tryz.ntmps159 e_slices_Growhuff_batchhuff_batch r_slices_Growhuff_batchhuff_batch (by simp) (by simp [AV.gl, AV.gl.glL, int]) (by simp) ?_
 unfold s_slices_Growhuff_batchhuff_batch
 have d1 : decide ((n : Int) < 0) = false := decide_eq_false (by omega)
 have d2 : decide ((n : Int) > 0) = true := decide_eq_true (by omega)
 have d3 : (n == 0) = false := by simp; omega
 iterate 16 (first | refine zR (ja3 @d1 @d2 @d3) ?_ | exact zU (ja3 @d1 @d2 @d3))
 refine SWp.cut 22 0 (g := 1) (nl := false) (cells := (List.replicate n [AV.sc (.int .i64 0), AV.sc (.slice none 0 0)]).flatten) (by (first | exact yT | refine yS ?_)) ?_
 repeat (first | refine zS ?_ | exact zT)
def bA (p : Nat × List Nat) : AV := .agg [nA p.1, .sl false none (p.2.map nA)]
def bC (l : List (Nat × List Nat)) : List AV := l.flatMap fun p => [nA p.1, .sl false none (p.2.map nA)]
theorem free_bA {l : List (Nat × List Nat)} : AV.free.freeL (l.map bA) = true := freeL_iff.2 fun x hx => by
 obtain ⟨p, _, rfl⟩ := List.mem_map.1 hx
 simp only [bA, AV.free, AV.free.freeL, nA, free_nA, Bool.and_self]
theorem free_bC {l : List (Nat × List Nat)} : AV.free.freeL (bC l) = true := freeL_iff.2 fun x hx => by
 obtain ⟨p, _, hx⟩ := List.mem_flatMap.1 hx
 simp only [List.mem_cons, List.not_mem_nil, or_false] at hx
 rcases hx with rfl | rfl
 · rfl
 · simp only [AV.free, free_nA]
theorem flat_bA {l : List (Nat × List Nat)} : flat (some 2) (l.map bA) = bC l := by
 induction l with
 | nil => rfl
 | cons p l ih =>
   simp only [List.map_cons, bC, List.flatMap_cons] at ih ⊢
   rw [← ih]
   rfl
theorem length_bC {l : List (Nat × List Nat)} : (bC l).length = l.length * 2 := by
 induction l with
 | nil => rfl
 | cons p l ih => simp only [bC, List.flatMap_cons, List.length_append, List.length_cons, List.length_nil] at ih ⊢; omega
theorem bC_append {l m : List (Nat × List Nat)} : bC l ++ bC m = bC (l ++ m) := by simp [bC]
theorem flatOk_bA {l : List (Nat × List Nat)} : (∀ y ∈ l.map bA, ∃ xs, y = .agg xs) = True := eq_true fun y hy => by
 obtain ⟨p, _, rfl⟩ := List.mem_map.1 hy
 exact ⟨_, rfl⟩
end Go.Proofs.YtbcncdpaigljeaaGreatDoor.Aw
namespace Go.Proofs.YtbcncdpaigljeaaGreatDoor.Aw
open Go
set_option linter.unusedSimpArgs false
set_option linter.unusedVariables false
theorem flat_bA' {l : List (Nat × List Nat)} : (l.map bA).flatMap (fun x => (cellsA x).getD []) = bC l := flat_bA
set_option maxRecDepth 100000 in
theorem slices_ConcatB [Tabs Tryz.prog] (n1 n2 : Bool) (l m : List (Nat × List Nat)) (hl : l.length ≤ 100000) (hm : m.length ≤ 100000) (h0 : 0 < l.length + m.length) :
   HCon Tryz.prog n_slices_Concathuff_batchhuff_batch [.sl false none [.sl n1 (some 2) (l.map bA), .sl n2 (some 2) (m.map bA)]] [] (.own 1022 4 (some 2) 0 (l.length + m.length)) [(1022, 4, .row false (bC (l ++ m)))] 5 := by
 refine HCon.of' mix Tryz.func155 rfl Tryz.ntmps155 e_slices_Concathuff_batchhuff_batch r_slices_Concathuff_batchhuff_batch (by simp) (by simp only [AV.gl.glL, AV.gl, and_true]; exact ⟨glL_of_free _ _ free_bA, glL_of_free _ _ free_bA⟩) (by simp) ?_
 unfold s_slices_Concathuff_batchhuff_batch
 obtain ⟨n, hn⟩ : ∃ n, n = l.length + m.length := ⟨_, rfl⟩
 have hc : (l.length : Int) + (m.length : Int) = (n : Int) := by omega
 have d1 : decide ((l.length : Int) < 0) = false := decide_eq_false (by omega)
 have d2 : decide ((n : Int) < 0) = false := decide_eq_false (by omega)
 repeat (first | refine xR (ja4 @d1 @hc @d2 @List.length_map.{0, 0}) ?_ | exact xU (ja4 @d1 @hc @d2 @List.length_map.{0, 0}))
 refine SWp.unroll ?_
 repeat (first | refine xR (ja4 @d1 @hc @d2 @List.length_map.{0, 0}) ?_ | exact xU (ja4 @d1 @hc @d2 @List.length_map.{0, 0}))
 refine goC_h [] 1000 (slices_GrowB n (by omega) (by omega)) (by simp) (by simp) ?_ ?_ ?_
 iterate 2 (case _ => (first | exact vT | refine vS ?_))
 repeat (first | refine xR @List.length_map.{0, 0} ?_ | exact xU @List.length_map.{0, 0})
 have e1 : l.length ≤ 70368744177664 := by omega
 refine SWp.unroll ?_
 repeat (first | refine xR (ja5 @List.length_append.{0} @List.length_map.{0, 0} @flatOk_bA @flat_bA' @length_bC) ?_ | exact xU (ja5 @List.length_append.{0} @List.length_map.{0, 0} @flatOk_bA @flat_bA' @length_bC))
 exact bC_append
end Go.Proofs.YtbcncdpaigljeaaGreatDoor.Aw
namespace Go.Proofs.YtbcncdpaigljeaaGreatDoor.Aw
open Go
set_option linter.unusedSimpArgs false
set_option linter.unusedVariables false
abbrev Bt := Nat × List Nat
theorem bC_cons {p : Bt} {l : List Bt} : bC (p :: l) = nA p.1 :: .sl false none (p.2.map nA) :: bC l := by simp [bC]
theorem drop_bC {l : List Bt} {i : Nat} : (bC l).drop (i * 2) = bC (l.drop i) := by
 induction l generalizing i with
 | nil => simp [bC]
 | cons p l ih =>
   cases i with
   | zero => simp
   | succ i => rw [bC_cons, Nat.succ_mul]; simpa using ih
theorem take_bC {l : List Bt} {i : Nat} : (bC l).take (i * 2) = bC (l.take i) := by
 induction l generalizing i with
 | nil => simp [bC]
 | cons p l ih =>
   cases i with
   | zero => simp [bC]
   | succ i => rw [bC_cons, show (i + 1) * 2 = i * 2 + 1 + 1 from by omega, List.take_succ_cons, List.take_succ_cons, ih, List.take_succ_cons, bC_cons]
theorem load_bC {l : List Bt} {i : Nat} (h : i < l.length) : ((bC l).drop (i * 2)).take 2 = [nA (l.getD i (0, [])).1, .sl false none ((l.getD i (0, [])).2.map nA)] := by
 rw [drop_bC, List.drop_eq_getElem_cons h, bC_cons]
 simp [List.getD, List.getElem?_eq_getElem h]
theorem store_bC {l : List Bt} {i c : Nat} {s : List Nat} (h : i < l.length) : (bC l).take (i * 2) ++ nA c :: .sl false none (s.map nA) :: (bC l).drop (i * 2 + 2) = bC (l.set i (c, s)) := by
 rw [show i * 2 + 2 = (i + 1) * 2 from by omega, take_bC, drop_bC, List.set_eq_take_append_cons_drop, if_pos h, ← bC_append, bC_cons]
theorem bC_gl {l : List Bt} : ∀ n cells, AO.row n cells ∈ [AO.row false (bC l)] → AV.gl.glL 1 cells := by
 intro n cells h
 simp only [List.mem_singleton, AO.row.injEq] at h
 obtain ⟨-, rfl⟩ := h
 exact glL_of_free _ _ free_bC
def swapR (l : List Bt) (a b : Nat) : Nat → List Bt
 | 0 => l
 | k + 1 => ((swapR l a b k).set (a + k) ((swapR l a b k).getD (b + k) (0, []))).set (b + k) ((swapR l a b k).getD (a + k) (0, []))
theorem length_swapR {l : List Bt} {a b k : Nat} : (swapR l a b k).length = l.length := by
 induction k with
 | zero => rfl
 | succ k ih => simp [swapR, ih]
set_option maxRecDepth 100000 in
theorem slices_swapRange_h [Tabs Tryz.prog] (l : List Bt) (f : AV) (hf : f.free = true) (hl : l.length ≤ 100000) (a b n : Nat) (ha : a + n ≤ l.length) (hb : b + n ≤ l.length) :
   HCon Tryz.prog n_slices_swapRangeCmpFunchuff_batch [.own 1000 0 (some 2) 0 l.length, int a, int b, int n, f] [.row false (bC l)] (.tup []) [(1000, 0, .row false (bC (swapR l a b n)))] 1 := by
 refine HCon.of' mix Tryz.func164 rfl Tryz.ntmps164 e_slices_swapRangeCmpFunchuff_batch r_slices_swapRangeCmpFunchuff_batch (by simp) (by simp only [AV.gl.glL, AV.gl, int, and_true, true_and]; exact ⟨by omega, gl_of_free _ _ hf⟩) bC_gl ?_
 unfold s_slices_swapRangeCmpFunchuff_batch
 repeat (first | refine zS ?_ | exact zT)
 refine SWp.loop (α := Nat) (fun k => mk 38 1 [(0, .own 1000 0 (some 2) 0 l.length), (1, int a), (2, int b), (3, int n), (10, int k)] [(1000, 0, .row false (bC (swapR l a b k)))])
   (fun k => k ≤ n) (fun k => n - k) 0 (Nat.zero_le _) (le_mk rfl ?_ ?_ ?_) ?_
 · exact Nat.le_refl _
 iterate 2 (case _ => (first | exact yU (ja2 @swapR.eq_1 @swapR.eq_2) | refine yR (ja2 @swapR.eq_1 @swapR.eq_2) ?_))
 rintro k hk -
 repeat (first | refine zS ?_ | exact zT)
 refine SWp.cond rfl (fun h => ?_) (fun h => ?_)
 · simp only [decide_eq_true_eq] at h
   have hL := length_swapR (l := l) (a := a) (b := b) (k := k)
   obtain ⟨L, hLL⟩ : ∃ L, L = swapR l a b k := ⟨_, rfl⟩
   rw [← hLL] at hL
   obtain ⟨p, hp⟩ : ∃ p, p = a + k := ⟨_, rfl⟩
   obtain ⟨q, hq⟩ : ∃ q, q = b + k := ⟨_, rfl⟩
   have ep : (a : Int) + (k : Int) = (p : Int) := by omega
   have eq' : (b : Int) + (k : Int) = (q : Int) := by omega
   have hpl : p < L.length := by omega
   have hql : q < L.length := by omega
   have e1 := load_bC hpl
   have e2 := load_bC hql
   have e3 : (bC L).length = l.length * 2 := by rw [length_bC, hL]
   have hpq : p * 2 + 2 ≤ l.length * 2 := by omega
   have hqq : q * 2 + 2 ≤ l.length * 2 := by omega
   obtain ⟨x, hx⟩ : ∃ x, x = L.getD p (0, []) := ⟨_, rfl⟩
   obtain ⟨y, hy⟩ : ∃ y, y = L.getD q (0, []) := ⟨_, rfl⟩
   rw [← hx] at e1
   rw [← hy] at e2
   have s1 := store_bC (c := y.1) (s := y.2) hpl
   have e4 : (bC (L.set p (y.1, y.2))).length = l.length * 2 := by rw [length_bC, List.length_set, hL]
   have s2 := store_bC (l := L.set p (y.1, y.2)) (c := x.1) (s := x.2) (i := q) (by rw [List.length_set]; exact hql)
   repeat (first | refine zR (ja8 hLL.symm @ep @eq' @e1 @e2 @e3 @s1 (ja2 @e4 @s2)) ?_ | exact zU (ja8 hLL.symm @ep @eq' @e1 @e2 @e3 @s1 (ja2 @e4 @s2)))
   have hsw : swapR l a b (k + 1) = (L.set p (y.1, y.2)).set q (x.1, x.2) := by
     simp only [swapR, ← hLL, ← hp, ← hq, ← hx, ← hy]
   refine At.of (k + 1) (by omega) (by omega) rfl rfl (Nat.le_refl _) ?_ ?_
   · (first | exact yT | refine yS ?_)
     try omega
   · (first | exact yU @hsw | refine yR @hsw ?_)
 · simp only [decide_eq_false_iff_not] at h
   obtain rfl : k = n := by omega
   repeat (first | refine zR @outOf_nil ?_ | exact zU @outOf_nil)
end Go.Proofs.YtbcncdpaigljeaaGreatDoor.Aw
namespace Go.Proofs.YtbcncdpaigljeaaGreatDoor.Aw
open Go
set_option linter.unusedSimpArgs false
set_option linter.unusedVariables false
def Srt (l : List Bt) : Prop := l.Pairwise fun p q => p.1 ≤ q.1
def insR (A : List Bt) (x : Bt) : List Bt := A.takeWhile (fun p => decide (p.1 ≤ x.1)) ++ x :: A.dropWhile (fun p => decide (p.1 ≤ x.1))
def sortB (S : List Bt) : List Bt := S.foldl insR []
theorem insR_at {A1 A2 : List Bt} {x : Bt} (h1 : ∀ q ∈ A1, q.1 ≤ x.1) (h2 : ∀ q ∈ A2, x.1 < q.1) : insR (A1 ++ A2) x = A1 ++ x :: A2 := by
 have e : ∀ q ∈ A1, (fun p : Bt => decide (p.1 ≤ x.1)) q = true := fun q hq => by simpa using h1 q hq
 unfold insR
 rw [List.takeWhile_append_of_pos e, List.dropWhile_append_of_pos e]
 cases A2 with
 | nil => simp
 | cons y A2 =>
   have hy := h2 y (by simp)
   have : decide (y.1 ≤ x.1) = false := decide_eq_false (by omega)
   simp [List.takeWhile_cons, List.dropWhile_cons, this]
theorem srt_split {A : List Bt} {x : Bt} (h : Srt A) : ∃ A1 A2, A = A1 ++ A2 ∧ (∀ q ∈ A1, q.1 ≤ x.1) ∧ ∀ q ∈ A2, x.1 < q.1 := by
 induction A with
 | nil => exact ⟨[], [], rfl, by simp, by simp⟩
 | cons y A ih =>
   have hy := List.pairwise_cons.1 h
   by_cases c : y.1 ≤ x.1
   · obtain ⟨A1, A2, rfl, h1, h2⟩ := ih hy.2
     exact ⟨y :: A1, A2, rfl, by simpa using ⟨c, by simpa using h1⟩, h2⟩
   · refine ⟨[], y :: A, rfl, by simp, fun q hq => ?_⟩
     rcases List.mem_cons.1 hq with rfl | hq
     · omega
     · have := hy.1 q hq; omega
theorem srt_insR {A : List Bt} {x : Bt} (h : Srt A) : Srt (insR A x) := by
 obtain ⟨A1, A2, rfl, h1, h2⟩ := srt_split (x := x) h
 rw [insR_at h1 h2]
 obtain ⟨p1, p2, p3⟩ := List.pairwise_append.1 h
 refine List.pairwise_append.2 ⟨p1, List.pairwise_cons.2 ⟨fun q hq => by have := h2 q hq; omega, p2⟩, fun a ha b hb => ?_⟩
 rcases List.mem_cons.1 hb with rfl | hb
 · exact h1 a ha
 · exact p3 a ha b hb
theorem srt_sortB : ∀ {S A : List Bt}, Srt A → Srt (S.foldl insR A)
 | [], _, h => h
 | _ :: S, _, h => srt_sortB (S := S) (srt_insR h)
theorem sortB_srt (S : List Bt) : Srt (sortB S) := srt_sortB List.Pairwise.nil
theorem filter_insR {A : List Bt} {x : Bt} (h : Srt A) (c : Nat) : (insR A x).filter (fun p => p.1 == c) = (A ++ [x]).filter fun p => p.1 == c := by
 obtain ⟨A1, A2, rfl, h1, h2⟩ := srt_split (x := x) h
 rw [insR_at h1 h2]
 simp only [List.filter_append, List.filter_cons, List.filter_nil, List.append_assoc]
 by_cases e : x.1 == c
 · have : A2.filter (fun p => p.1 == c) = [] := by
     rw [List.filter_eq_nil_iff]
     intro q hq
     have := h2 q hq
     simp only [beq_iff_eq] at e ⊢
     omega
   simp [this, e]
 · simp [e]
theorem filter_foldl {c : Nat} : ∀ {S A : List Bt}, Srt A → (S.foldl insR A).filter (fun p => p.1 == c) = (A ++ S).filter fun p => p.1 == c
 | [], A, _ => by simp
 | x :: S, A, h => by
   rw [List.foldl_cons, filter_foldl (S := S) (srt_insR h), List.filter_append, filter_insR h]
   simp only [List.filter_append, List.filter_cons, List.filter_nil, List.append_assoc]
   split <;> simp
theorem filter_sortB {S : List Bt} {c : Nat} : (sortB S).filter (fun p => p.1 == c) = S.filter fun p => p.1 == c := by
 have := filter_foldl (c := c) (S := S) (A := []) List.Pairwise.nil
 rw [List.nil_append] at this
 exact this
theorem srt_unique : ∀ {A B : List Bt}, Srt A → Srt B → (∀ c, A.filter (fun p => p.1 == c) = B.filter fun p => p.1 == c) → A = B
 | [], [], _, _, _ => rfl
 | [], y :: B, _, _, h => by
   have := h y.1
   simp at this
 | x :: A, [], _, _, h => by
   have := h x.1
   simp at this
 | x :: A, y :: B, ha, hb, h => by
   have ha' := List.pairwise_cons.1 ha
   have hb' := List.pairwise_cons.1 hb
   have hxy : x.1 = y.1 := by
     have h1 : ∃ q ∈ y :: B, q.1 = x.1 := by
       have hx : x ∈ (y :: B).filter (fun p => p.1 == x.1) := by rw [← h x.1]; simp
       rw [List.mem_filter] at hx
       exact ⟨x, hx.1, rfl⟩
     have h2 : ∃ q ∈ x :: A, q.1 = y.1 := by
       have hy : y ∈ (x :: A).filter (fun p => p.1 == y.1) := by rw [h y.1]; simp
       rw [List.mem_filter] at hy
       exact ⟨y, hy.1, rfl⟩
     obtain ⟨q, hq, e⟩ := h1
     obtain ⟨r, hr, e'⟩ := h2
     have l1 : y.1 ≤ x.1 := by
       rcases List.mem_cons.1 hq with rfl | hq
       · omega
       · have := hb'.1 q hq; omega
     have l2 : x.1 ≤ y.1 := by
       rcases List.mem_cons.1 hr with rfl | hr
       · omega
       · have := ha'.1 r hr; omega
     omega
   have hx := h x.1
   have e1 : (x.1 == x.1) = true := by simp
   have e2 : (y.1 == x.1) = true := by simp [hxy]
   rw [List.filter_cons_of_pos (by simp), List.filter_cons_of_pos (by simp [hxy])] at hx
   obtain ⟨e, hrest⟩ := List.cons.inj hx
   subst e
   rw [srt_unique ha'.2 hb'.2 fun c => ?_]
   have := h c
   simp only [List.filter_cons] at this
   split at this
   · exact (List.cons.inj this).2
   · exact this
theorem sortB_eq {S A : List Bt} (h : Srt A) (hf : ∀ c, A.filter (fun p => p.1 == c) = S.filter fun p => p.1 == c) : A = sortB S :=
 srt_unique h (sortB_srt S) fun c => by rw [hf c, filter_sortB]
theorem sortB_snoc {S : List Bt} {x : Bt} : sortB (S ++ [x]) = insR (sortB S) x := by simp [sortB]
theorem length_insR {A : List Bt} {x : Bt} : (insR A x).length = A.length + 1 := by
 have := congrArg List.length (List.takeWhile_append_dropWhile (p := fun p : Bt => decide (p.1 ≤ x.1)) (l := A))
 simp only [List.length_append] at this
 simp only [insR, List.length_append, List.length_cons]
 omega
theorem length_foldl : ∀ {S A : List Bt}, (S.foldl insR A).length = A.length + S.length
 | [], _ => by simp
 | _ :: S, A => by rw [List.foldl_cons, length_foldl (S := S), length_insR, List.length_cons]; omega
theorem length_sortB {S : List Bt} : (sortB S).length = S.length := by simp [sortB, length_foldl]
end Go.Proofs.YtbcncdpaigljeaaGreatDoor.Aw
namespace Go.Proofs.YtbcncdpaigljeaaGreatDoor.Aw
open Go
set_option linter.unusedSimpArgs false
set_option linter.unusedVariables false
theorem mem_sortB {S : List Bt} {q : Bt} : q ∈ sortB S ↔ q ∈ S := by
 have h := filter_sortB (S := S) (c := q.1)
 have e : ∀ l : List Bt, q ∈ l ↔ q ∈ l.filter fun p => p.1 == q.1 := fun l => by simp
 rw [e (sortB S), h, ← e]
theorem sortB_id {S : List Bt} (h : Srt S) : sortB S = S := (sortB_eq h fun _ => rfl).symm
theorem sortB_left {x : Bt} {Y1 Y2 : List Bt} (h : Srt (Y1 ++ Y2)) (h1 : ∀ y ∈ Y1, y.1 < x.1) (h2 : ∀ y ∈ Y2, x.1 ≤ y.1) : sortB (x :: (Y1 ++ Y2)) = Y1 ++ x :: Y2 := by
 refine (sortB_eq ?_ fun c => ?_).symm
 · obtain ⟨p1, p2, p3⟩ := List.pairwise_append.1 h
   refine List.pairwise_append.2 ⟨p1, List.pairwise_cons.2 ⟨h2, p2⟩, fun a ha b hb => ?_⟩
   rcases List.mem_cons.1 hb with rfl | hb
   · have := h1 a ha; omega
   · exact p3 a ha b hb
 · simp only [List.filter_append, List.filter_cons]
   by_cases e : x.1 == c
   · have : Y1.filter (fun p => p.1 == c) = [] := by
       rw [List.filter_eq_nil_iff]
       intro q hq
       have := h1 q hq
       simp only [beq_iff_eq] at e ⊢
       omega
     simp [this, e]
   · simp [e]
theorem sortB_right {y : Bt} {X1 X2 : List Bt} (h : Srt (X1 ++ X2)) (h1 : ∀ x ∈ X1, x.1 ≤ y.1) (h2 : ∀ x ∈ X2, y.1 < x.1) : sortB ((X1 ++ X2) ++ [y]) = X1 ++ y :: X2 := by
 rw [sortB_snoc, sortB_id h, insR_at h1 h2]
theorem sortB_cut {X1 X2 Y1 Y2 : List Bt} (hx : Srt (X1 ++ X2)) (hy : Srt (Y1 ++ Y2)) (h1 : ∀ x ∈ X1, ∀ y ∈ Y2, x.1 ≤ y.1) (h2 : ∀ y ∈ Y1, ∀ x ∈ X2, y.1 < x.1) :
   sortB ((X1 ++ X2) ++ (Y1 ++ Y2)) = sortB (X1 ++ Y1) ++ sortB (X2 ++ Y2) := by
 refine (sortB_eq ?_ fun c => ?_).symm
 · refine List.pairwise_append.2 ⟨sortB_srt _, sortB_srt _, fun a ha b hb => ?_⟩
   rw [mem_sortB, List.mem_append] at ha hb
   rcases ha with ha | ha <;> rcases hb with hb | hb
   · exact (List.pairwise_append.1 hx).2.2 a ha b hb
   · exact h1 a ha b hb
   · have := h2 a ha b hb; omega
   · exact (List.pairwise_append.1 hy).2.2 a ha b hb
 · rw [List.filter_append, filter_sortB, filter_sortB]
   simp only [List.filter_append, List.append_assoc]
   congr 1
   rw [← List.append_assoc, ← List.append_assoc]
   congr 1
   by_cases e : ∃ y ∈ Y1, y.1 = c
   · obtain ⟨y, hy1, rfl⟩ := e
     have : X2.filter (fun p => p.1 == y.1) = [] := by
       rw [List.filter_eq_nil_iff]
       intro q hq
       have := h2 y hy1 q hq
       simp only [beq_iff_eq]
       omega
     simp [this]
   · have : Y1.filter (fun p => p.1 == c) = [] := by
       rw [List.filter_eq_nil_iff]
       intro q hq hh
       exact e ⟨q, hq, by simpa using hh⟩
     simp [this]
end Go.Proofs.YtbcncdpaigljeaaGreatDoor.Aw
namespace Go.Proofs.YtbcncdpaigljeaaGreatDoor.Aw
open Go
set_option linter.unusedSimpArgs false
set_option linter.unusedVariables false
def cmpF : AV := .sc (.func (.func n_huff_byCount) #[] #[])
theorem sortB_nil : sortB [] = [] := rfl
theorem sortB_one {x : Bt} : sortB [x] = [x] := rfl
theorem getD_mid {U V : List Bt} {x : Bt} : (U ++ x :: V).getD U.length (0, []) = x := by simp [List.getD]
theorem getD_mid2 {U V : List Bt} {x y : Bt} : (U ++ y :: x :: V).getD (U.length + 1) (0, []) = x := by simp [List.getD]
theorem swap_mid {U V : List Bt} {x y : Bt} : ((U ++ y :: x :: V).set (U.length + 1) y).set U.length x = U ++ x :: y :: V := by
 rw [List.set_append_right _ _ (by omega), List.set_append_right _ _ (by omega)]
 simp
set_option maxRecDepth 100000 in
theorem slices_insertionSort_h [Tabs Tryz.prog] (Pf S Tl : List Bt) (N a b : Nat) (hN : N = (Pf ++ S ++ Tl).length) (hl : N ≤ 100000) (ha : a = Pf.length) (hb : b = Pf.length + S.length) :
   HCon Tryz.prog n_slices_insertionSortCmpFunchuff_batch [.own 1000 0 (some 2) 0 N, int a, int b, cmpF] [.row false (bC (Pf ++ S ++ Tl))] (.tup []) [(1000, 0, .row false (bC (Pf ++ sortB S ++ Tl)))] 1 := by
 refine HCon.of' mix Tryz.func160 rfl Tryz.ntmps160 e_slices_insertionSortCmpFunchuff_batch r_slices_insertionSortCmpFunchuff_batch (by simp) (by simp only [AV.gl.glL, AV.gl, int, cmpF, and_true]; omega) bC_gl ?_
 unfold s_slices_insertionSortCmpFunchuff_batch
 have hlen : N = Pf.length + S.length + Tl.length := by rw [hN]; simp; omega
 clear hN
 repeat (first | refine zS ?_ | exact zT)
 cases S with
 | nil =>
   have d0 : decide ((a : Int) + 1 < (b : Int)) = false := decide_eq_false (by simp at hb; omega)
   refine SWp.unroll ?_
   repeat (first | refine zR (ja3 @d0 @outOf_nil @sortB_nil) ?_ | exact zU (ja3 @d0 @outOf_nil @sortB_nil))
 | cons s0 S =>
   refine SWp.loop (α := Nat) (fun k => mk 53 1 [(0, .own 1000 0 (some 2) 0 N), (1, int a), (2, int b), (3, cmpF), (8, int (a + k : Nat))] [(1000, 0, .row false (bC (Pf ++ (sortB ((s0 :: S).take k) ++ ((s0 :: S).drop k ++ Tl)))))])
     (fun k => 1 ≤ k ∧ k ≤ (s0 :: S).length) (fun k => (s0 :: S).length - k) 1 ⟨Nat.le_refl _, by simp⟩ (le_mk rfl ?_ ?_ ?_) ?_
   · exact Nat.le_refl _
   iterate 2 (case _ => (first | exact yU @sortB_one | refine yR @sortB_one ?_))
   generalize hS : s0 :: S = S' at *
   rintro k ⟨hk1, hk2⟩ -
   obtain ⟨i, hi⟩ : ∃ i, i = a + k := ⟨_, rfl⟩
   rw [← hi]
   repeat (first | refine zS ?_ | exact zT)
   refine SWp.cond rfl (fun h => ?_) (fun h => ?_)
   · simp only [decide_eq_true_eq] at h
     have hkl : k < S'.length := by omega
     obtain ⟨x, hx⟩ : ∃ x, x = S'[k] := ⟨_, rfl⟩
     have hdr : S'.drop k = x :: S'.drop (k + 1) := by rw [hx]; exact List.drop_eq_getElem_cons hkl
     have htk : S'.take (k + 1) = S'.take k ++ [x] := by rw [hx, List.take_succ_eq_append_getElem hkl]
     have hAl : (sortB (S'.take k)).length = k := by rw [length_sortB, List.length_take]; omega
     have hsrt := sortB_srt (S'.take k)
     have hnx : sortB (S'.take (k + 1)) = insR (sortB (S'.take k)) x := by rw [htk, sortB_snoc]
     obtain ⟨A, hA⟩ : ∃ A, A = sortB (S'.take k) := ⟨_, rfl⟩
     rw [← hA] at hAl hsrt hnx
     have hil : (a : Int) + (A.length : Int) = (i : Int) := by omega
     rw [hdr, ← hA]
     repeat (first | refine zS ?_ | exact zT)
     refine SWp.loop (α := List Bt × List Bt) (fun p => mk 53 1 [(0, .own 1000 0 (some 2) 0 N), (1, int a), (2, int b), (3, cmpF), (8, int i), (9, int (a + p.1.length : Nat))] [(1000, 0, .row false (bC (Pf ++ (p.1 ++ x :: (p.2 ++ (S'.drop (k + 1) ++ Tl))))))])
       (fun p => p.1 ++ p.2 = A ∧ ∀ q ∈ p.2, x.1 < q.1) (fun p => p.1.length) (A, []) ⟨by simp, by simp⟩ (le_mk rfl ?_ ?_ ?_) ?_
     · exact Nat.le_refl _
     iterate 2 (case _ => (first | exact yU @hil | refine yR @hil ?_))
     rintro ⟨A1, A2⟩ ⟨hA12, hgt⟩ -
     simp only at hA12 hgt
     rcases List.eq_nil_or_concat A1 with rfl | ⟨B, y, rfl⟩
     · have d1 : decide ((a : Int) > (a : Int)) = false := decide_eq_false (by omega)
       have e : sortB (S'.take (k + 1)) = x :: A2 := by rw [hnx, ← hA12, insR_at (by simp) hgt]; rfl
       repeat (first | refine zR (ja3 @List.length_nil.{0} @Nat.add_zero @d1) ?_ | exact zU (ja3 @List.length_nil.{0} @Nat.add_zero @d1))
       refine At.of (k + 1) (by omega) (by omega) rfl rfl (Nat.le_refl _) ?_ ?_
       · (first | exact yT | refine yS ?_)
         try omega
       · (first | exact yU @e | refine yR @e ?_)
     · simp only [List.concat_eq_append] at hA12 ⊢
       obtain ⟨p, hp⟩ : ∃ p, p = a + B.length := ⟨_, rfl⟩
       obtain ⟨q, hq⟩ : ∃ q, q = a + (B ++ [y]).length := ⟨_, rfl⟩
       obtain ⟨W, hWd⟩ : ∃ W, W = (Pf ++ B) ++ y :: x :: (A2 ++ (S'.drop (k + 1) ++ Tl)) := ⟨_, rfl⟩
       have hW : Pf ++ ((B ++ [y]) ++ x :: (A2 ++ (S'.drop (k + 1) ++ Tl))) = W := by rw [hWd]; simp
       have hqp : q = p + 1 := by rw [hq, hp]; simp; omega
       have hUl : (Pf ++ B).length = p := by rw [hp, ha]; simp
       have hBA : B.length + 1 + A2.length = k := by rw [← hAl, ← hA12]; simp; omega
       have hWl : W.length = N := by
         rw [hWd]
         simp only [List.length_append, List.length_cons, List.length_drop]
         omega
       have hpl : p < W.length := by omega
       have hql : q < W.length := by omega
       have e1 := load_bC hpl
       have e2 := load_bC hql
       have g1 : W.getD p (0, []) = y := by rw [hWd, ← hUl]; exact getD_mid
       have g2 : W.getD q (0, []) = x := by rw [hWd, hqp, ← hUl]; exact getD_mid2
       rw [g1] at e1
       rw [g2] at e2
       have e3 : (bC W).length = N * 2 := by rw [length_bC, hWl]
       have s1 := store_bC (c := y.1) (s := y.2) hql
       have e4 : (bC (W.set q (y.1, y.2))).length = N * 2 := by rw [length_bC, List.length_set, hWl]
       have s2 := store_bC (l := W.set q (y.1, y.2)) (c := x.1) (s := x.2) (i := p) (by rw [List.length_set]; exact hpl)
       have hsw : (W.set q (y.1, y.2)).set p (x.1, x.2) = Pf ++ (B ++ (x :: (y :: (A2 ++ (S'.drop (k + 1) ++ Tl))))) := by
         rw [hWd, hqp, ← hUl, swap_mid]; simp
       rw [hsw] at s2
       have d1 : decide ((q : Int) > (a : Int)) = true := decide_eq_true (by omega)
       have eqp : (q : Int) - 1 = (p : Int) := by omega
       have hpN : p * 2 + 2 ≤ N * 2 := by omega
       have hqN : q * 2 + 2 ≤ N * 2 := by omega
       rw [← hq, hW]
       clear hW hsw
       repeat (first | refine zR (ja5 @d1 @eqp @e1 @e2 @e3) ?_ | exact zU (ja5 @d1 @eqp @e1 @e2 @e3))
       refine goV_at n_huff_byCount rfl (by decide) ?_
       refine goC_p _ (.inl ⟨by simp only [AV.free, AV.free.freeL, nA, free_nA, Bool.and_self], huff_byCount_c (x.1 : Int) (y.1 : Int) _ _ (by simp only [AV.free, free_nA]) (by simp only [AV.free, free_nA])⟩) ?_
       by_cases c : x.1 < y.1
       · have dc : decide (cmpI (x.1 : Int) (y.1 : Int) < 0) = true := by
           unfold cmpI; rw [if_pos (by omega)]; rfl
         repeat (first | refine zR (ja8 @dc @eqp @e1 @e2 @e3 @s1 @e4 @s2) ?_ | exact zU (ja8 @dc @eqp @e1 @e2 @e3 @s1 @e4 @s2))
         refine At.of (B, y :: A2) ⟨by rw [← hA12]; simp, fun r hr => ?_⟩ (by simp) rfl rfl (Nat.le_refl _) ?_ ?_
         · rcases List.mem_cons.1 hr with rfl | hr
           · exact c
           · exact hgt r hr
         · (first | exact yT | refine yS ?_)
           try omega
         · (first | exact yT | refine yS ?_)
       · have dc : decide (cmpI (x.1 : Int) (y.1 : Int) < 0) = false := by
           unfold cmpI; rw [if_neg (by omega)]; split <;> rfl
         have hle : ∀ r ∈ B ++ [y], r.1 ≤ x.1 := fun r hr => by
           rcases List.mem_append.1 hr with hr | hr
           · rw [← hA12, List.append_assoc] at hsrt
             have := (List.pairwise_append.1 hsrt).2.2 r hr y (by simp)
             omega
           · simp only [List.mem_singleton] at hr
             subst hr; omega
         have e : sortB (S'.take (k + 1)) = B ++ [y] ++ x :: A2 := by rw [hnx, ← hA12, insR_at hle hgt]
         repeat (first | refine zR @dc ?_ | exact zU @dc)
         refine At.of (k + 1) (by omega) (by omega) rfl rfl (Nat.le_refl _) ?_ ?_
         · (first | exact yT | refine yS ?_)
           try omega
         · (first | exact yU (ja2 @e @hWd) | refine yR (ja2 @e @hWd) ?_)
   · simp only [decide_eq_false_iff_not] at h
     obtain rfl : k = S'.length := by omega
     repeat (first | refine zR (ja3 @outOf_nil @List.take_length.{0} @List.drop_length.{0}) ?_ | exact zU (ja3 @outOf_nil @List.take_length.{0} @List.drop_length.{0}))
end Go.Proofs.YtbcncdpaigljeaaGreatDoor.Aw
namespace Go.Proofs.YtbcncdpaigljeaaGreatDoor.Aw
open Go
set_option linter.unusedSimpArgs false
set_option linter.unusedVariables false
theorem set_two {U V W : List Bt} {x y : Bt} : ((U ++ (x :: (V ++ (y :: W)))).set U.length y).set (U.length + 1 + V.length) x = U ++ (y :: (V ++ (x :: W))) := by
 rw [List.set_append_right _ _ (by omega), Nat.sub_self, List.set_cons_zero, List.set_append_right _ _ (by omega),
   show U.length + 1 + V.length - U.length = V.length + 1 from by omega, List.set_cons_succ, List.set_append_right _ _ (by omega), Nat.sub_self, List.set_cons_zero]
theorem get_two {U V W : List Bt} {x y : Bt} : (U ++ (x :: (V ++ (y :: W)))).getD (U.length + 1 + V.length) (0, []) = y := by
 simp only [List.getD, List.getElem?_append_right (show U.length ≤ U.length + 1 + V.length by omega)]
 rw [show U.length + 1 + V.length - U.length = V.length + 1 from by omega, List.getElem?_cons_succ, List.getElem?_append_right (by omega)]
 simp
theorem swapR_blocks {U X V Y W : List Bt} (h : X.length = Y.length) : ∀ k, k ≤ X.length →
   swapR (U ++ (X ++ (V ++ (Y ++ W)))) U.length (U.length + X.length + V.length) k = U ++ ((Y.take k ++ X.drop k) ++ (V ++ ((X.take k ++ Y.drop k) ++ W)))
 | 0, _ => by simp [swapR]
 | k + 1, hk => by
   have hkx : k < X.length := by omega
   have hky : k < Y.length := by omega
   have dx := List.drop_eq_getElem_cons hkx
   have dy := List.drop_eq_getElem_cons hky
   have tx := List.take_succ_eq_append_getElem hkx
   have ty := List.take_succ_eq_append_getElem hky
   have ih := swapR_blocks (U := U) (V := V) (W := W) h k (by omega)
   generalize X[k] = x at *
   generalize Y[k] = y at *
   have e : U ++ ((Y.take k ++ X.drop k) ++ (V ++ ((X.take k ++ Y.drop k) ++ W))) = (U ++ Y.take k) ++ (x :: ((X.drop (k + 1) ++ V ++ X.take k) ++ (y :: (Y.drop (k + 1) ++ W)))) := by
     rw [dx, dy]; simp
   have l1 : U.length + k = (U ++ Y.take k).length := by simp; omega
   have l2 : U.length + X.length + V.length + k = (U ++ Y.take k).length + 1 + (X.drop (k + 1) ++ V ++ X.take k).length := by simp; omega
   simp only [swapR, ih]
   rw [e, l1, l2, get_two, getD_mid, set_two, tx, ty]
   simp
theorem renL_bC {ρ : Nat → Nat → Nat × Nat} {l : List Bt} : ren.renL ρ (bC l) = bC l := renL_free ρ _ free_bC
set_option maxRecDepth 100000 in
theorem slices_rotate_h [Tabs Tryz.prog] (Pf X0 Y0 Tl : List Bt) (N a m b : Nat) (hN : N = (Pf ++ (X0 ++ (Y0 ++ Tl))).length) (hl : N ≤ 100000) (ha : a = Pf.length) (hm : m = Pf.length + X0.length) (hb : b = Pf.length + X0.length + Y0.length) (hx0 : 0 < X0.length) (hy0 : 0 < Y0.length) :
   HCon Tryz.prog n_slices_rotateCmpFunchuff_batch [.own 1000 0 (some 2) 0 N, int a, int m, int b, cmpF] [.row false (bC (Pf ++ (X0 ++ (Y0 ++ Tl))))] (.tup []) [(1000, 0, .row false (bC (Pf ++ (Y0 ++ (X0 ++ Tl)))))] (2 + (X0.length + Y0.length)) := by
 refine HCon.of' mix Tryz.func163 rfl Tryz.ntmps163 e_slices_rotateCmpFunchuff_batch r_slices_rotateCmpFunchuff_batch (by simp) (by simp only [AV.gl.glL, AV.gl, int, cmpF, and_true]; omega) bC_gl ?_
 unfold s_slices_rotateCmpFunchuff_batch
 have hlen : N = Pf.length + (X0.length + (Y0.length + Tl.length)) := by rw [hN]; simp
 clear hN
 have c1 : (m : Int) - (a : Int) = (X0.length : Int) := by omega
 have c2 : (b : Int) - (m : Int) = (Y0.length : Int) := by omega
 obtain ⟨n0, hn0⟩ : ∃ n0, n0 = X0.length + Y0.length := ⟨_, rfl⟩
 rw [← hn0]
 repeat (first | refine zR (ja2 @c1 @c2) ?_ | exact zU (ja2 @c1 @c2))
 refine SWp.loop (α := (List Bt × List Bt) × (List Bt × List Bt) × Nat) (fun p => mk 58 (1 + p.2.2) [(0, .own 1000 0 (some 2) 0 N), (1, int a), (2, int m), (3, int b), (4, cmpF), (10, int p.1.2.length), (11, int p.2.1.1.length)] [(1000, 0, .row false (bC (Pf ++ (p.1.1 ++ (p.1.2 ++ (p.2.1.1 ++ (p.2.1.2 ++ Tl)))))))])
   (fun p => p.1.1 ++ (p.2.1.1 ++ (p.1.2 ++ p.2.1.2)) = Y0 ++ X0 ∧ m = Pf.length + p.1.1.length + p.1.2.length ∧ 0 < p.1.2.length ∧ 0 < p.2.1.1.length ∧ p.2.2 + p.1.2.length + p.2.1.1.length ≤ n0)
   (fun p => p.1.2.length + p.2.1.1.length) (([], X0), (Y0, []), 0) ⟨by simp, by simp; omega, hx0, hy0, by simp; omega⟩ (le_mk rfl ?_ ?_ ?_) ?_
 · exact Nat.le_refl _
 iterate 2 (case _ => (first | exact yT | refine yS ?_))
 rintro ⟨⟨D1, X⟩, ⟨Y, D2⟩, cc⟩ ⟨hD, hmm, hx, hy, hcc⟩ -
 simp only at hD hmm hx hy hcc
 have htot : D1.length + (Y.length + (X.length + D2.length)) = Y0.length + X0.length := by
   have := congrArg List.length hD
   simpa using this
 have hL : (Pf ++ (D1 ++ (X ++ (Y ++ (D2 ++ Tl))))).length = N := by simp; omega
 repeat (first | refine zS ?_ | exact zT)
 obtain ⟨p, hp⟩ : ∃ p, p = (Pf ++ D1).length := ⟨_, rfl⟩
 have hp' : p = Pf.length + D1.length := by rw [hp]; simp
 have em : (m : Int) - (X.length : Int) = (p : Int) := by omega
 have hmN : m + Y.length ≤ N := by omega
 refine SWp.cond rfl (fun h => ?_) (fun h => ?_)
 · have h : X.length ≠ Y.length := by
     simp at h; omega
   repeat (first | refine zS ?_ | exact zT)
   refine SWp.cond rfl (fun h' => ?_) (fun h' => ?_)
   · simp only [decide_eq_true_eq] at h'
     have h' : Y.length < X.length := by omega
     obtain ⟨X1, hX1⟩ : ∃ X1, X1 = X.take Y.length := ⟨_, rfl⟩
     obtain ⟨X2, hX2⟩ : ∃ X2, X2 = X.drop Y.length := ⟨_, rfl⟩
     have hX : X = X1 ++ X2 := by rw [hX1, hX2, List.take_append_drop]
     have l1 : X1.length = Y.length := by rw [hX1, List.length_take]; omega
     have l2 : X2.length = X.length - Y.length := by rw [hX2, List.length_drop]
     have hres : swapR (Pf ++ (D1 ++ (X ++ (Y ++ (D2 ++ Tl))))) p m Y.length = Pf ++ (D1 ++ (Y ++ (X2 ++ (X1 ++ (D2 ++ Tl))))) := by
       have := swapR_blocks (U := Pf ++ D1) (X := X1) (V := X2) (Y := Y) (W := D2 ++ Tl) l1 X1.length (Nat.le_refl _)
       rw [← hp, show p + X1.length + X2.length = m from by omega, List.drop_length, List.take_length, l1, List.take_length, List.drop_length] at this
       rw [hX]
       simpa using this
     have hsw := slices_swapRange_h (Pf ++ (D1 ++ (X ++ (Y ++ (D2 ++ Tl))))) cmpF rfl (by omega) p m Y.length (by omega) (by omega)
     rw [hL, hres] at hsw
     have e2 : (X.length : Int) - (Y.length : Int) = (X2.length : Int) := by omega
     repeat (first | refine zR @em ?_ | exact zU @em)
     refine goC_h [(1000, 0)] 2000 hsw (by simp) (by simp) ?_ ?_ ?_
     iterate 2 (case _ => (first | exact yU (ja2 @renL_bC @cmpF.eq_1) | refine yR (ja2 @renL_bC @cmpF.eq_1) ?_))
     repeat (first | refine zR (ja2 @e2 @renL_bC) ?_ | exact zU (ja2 @e2 @renL_bC))
     refine At.of ((D1 ++ Y, X2), (X1, D2), cc + 1) ⟨?_, ?_, ?_, ?_, ?_⟩ ?_ rfl rfl (Nat.le_refl _) ?_ ?_
     · rw [← hD, hX]; simp
     · simp; omega
     · simp only; omega
     · simp only; omega
     · simp only; omega
     · simp only; omega
     iterate 2 (case _ => (first | exact yU @l1 | refine yR @l1 ?_))
   · simp only [decide_eq_false_iff_not] at h'
     have h' : X.length < Y.length := by omega
     obtain ⟨Y1, hY1⟩ : ∃ Y1, Y1 = Y.take (Y.length - X.length) := ⟨_, rfl⟩
     obtain ⟨Y2, hY2⟩ : ∃ Y2, Y2 = Y.drop (Y.length - X.length) := ⟨_, rfl⟩
     have hY : Y = Y1 ++ Y2 := by rw [hY1, hY2, List.take_append_drop]
     have l1 : Y1.length = Y.length - X.length := by rw [hY1, List.length_take]; omega
     have l2 : Y2.length = X.length := by rw [hY2, List.length_drop]; omega
     obtain ⟨q, hq⟩ : ∃ q, q = m + Y1.length := ⟨_, rfl⟩
     have hres : swapR (Pf ++ (D1 ++ (X ++ (Y ++ (D2 ++ Tl))))) p q X.length = Pf ++ (D1 ++ (Y2 ++ (Y1 ++ (X ++ (D2 ++ Tl))))) := by
       have := swapR_blocks (U := Pf ++ D1) (X := X) (V := Y1) (Y := Y2) (W := D2 ++ Tl) l2.symm X.length (Nat.le_refl _)
       rw [← hp, show p + X.length + Y1.length = q from by omega, List.drop_length, List.take_length, ← l2, List.take_length, List.drop_length] at this
       rw [hY, ← l2]
       simpa using this
     have hsw := slices_swapRange_h (Pf ++ (D1 ++ (X ++ (Y ++ (D2 ++ Tl))))) cmpF rfl (by omega) p q X.length (by omega) (by omega)
     rw [hL, hres] at hsw
     have e2 : (Y.length : Int) - (X.length : Int) = (Y1.length : Int) := by omega
     have e3 : (m : Int) + (Y.length : Int) - (X.length : Int) = (q : Int) := by omega
     repeat (first | refine zR (ja2 @em @e3) ?_ | exact zU (ja2 @em @e3))
     refine goC_h [(1000, 0)] 2000 hsw (by simp) (by simp) ?_ ?_ ?_
     iterate 2 (case _ => (first | exact yU (ja2 @renL_bC @cmpF.eq_1) | refine yR (ja2 @renL_bC @cmpF.eq_1) ?_))
     repeat (first | refine zR (ja2 @e2 @renL_bC) ?_ | exact zU (ja2 @e2 @renL_bC))
     refine At.of ((D1, Y2), (Y1, X ++ D2), cc + 1) ⟨?_, ?_, ?_, ?_, ?_⟩ ?_ rfl rfl (Nat.le_refl _) ?_ ?_
     · rw [← hD, hY]; simp
     · simp only; omega
     · simp only; omega
     · simp only; omega
     · simp only; omega
     · simp only; omega
     iterate 2 (case _ => (first | exact yU @l2 | refine yR @l2 ?_))
 · have h : X.length = Y.length := by
     simp at h; omega
   have hres : swapR (Pf ++ (D1 ++ (X ++ (Y ++ (D2 ++ Tl))))) p m X.length = Pf ++ (Y0 ++ (X0 ++ Tl)) := by
     have := swapR_blocks (U := Pf ++ D1) (X := X) (V := []) (Y := Y) (W := D2 ++ Tl) h X.length (Nat.le_refl _)
     rw [← hp, show p + X.length + ([] : List Bt).length = m from by simp; omega, List.drop_length, List.take_length, h, List.take_length, List.drop_length] at this
     rw [h, show Pf ++ (Y0 ++ (X0 ++ Tl)) = Pf ++ ((Y0 ++ X0) ++ Tl) from by simp, ← hD]
     simpa using this
   have hsw := slices_swapRange_h (Pf ++ (D1 ++ (X ++ (Y ++ (D2 ++ Tl))))) cmpF rfl (by omega) p m X.length (by omega) (by omega)
   rw [hL, hres] at hsw
   repeat (first | refine zR @em ?_ | exact zU @em)
   refine goC_h [(1000, 0)] 2000 hsw (by simp) (by simp) ?_ ?_ ?_
   iterate 2 (case _ => (first | exact yU (ja2 @renL_bC @cmpF.eq_1) | refine yR (ja2 @renL_bC @cmpF.eq_1) ?_))
   repeat (first | refine zR (ja2 @outOf_nil @renL_bC) ?_ | exact zU (ja2 @outOf_nil @renL_bC))
   omega
end Go.Proofs.YtbcncdpaigljeaaGreatDoor.Aw
namespace Go.Proofs.YtbcncdpaigljeaaGreatDoor.Aw
open Go
set_option linter.unusedSimpArgs false
set_option linter.unusedVariables false
theorem srt_take {Y : List Bt} (h : Srt Y) {w : Nat} (hw : w < Y.length) : ∀ y ∈ Y.take (w + 1), y.1 ≤ (Y.getD w (0, [])).1 := fun y hy => by
 rw [List.take_succ_eq_append_getElem hw] at hy
 have e : Y.getD w (0, []) = Y[w] := by simp [List.getD, List.getElem?_eq_getElem hw]
 rw [e]
 rcases List.mem_append.1 hy with hy | hy
 · have := List.take_append_drop w Y
   rw [← this] at h
   exact (List.pairwise_append.1 h).2.2 y hy Y[w] (by rw [List.drop_eq_getElem_cons hw]; exact List.mem_cons_self)
 · simp only [List.mem_singleton] at hy
   rw [hy]; exact Nat.le_refl _
theorem srt_drop {Y : List Bt} (h : Srt Y) {w : Nat} (hw : w < Y.length) : ∀ y ∈ Y.drop w, (Y.getD w (0, [])).1 ≤ y.1 := fun y hy => by
 have e : Y.getD w (0, []) = Y[w] := by simp [List.getD, List.getElem?_eq_getElem hw]
 rw [e]
 have := List.take_append_drop w Y
 rw [← this] at h
 have h2 := (List.pairwise_append.1 h).2.1
 rw [List.drop_eq_getElem_cons hw] at h2 hy
 rcases List.mem_cons.1 hy with rfl | hy
 · exact Nat.le_refl _
 · exact (List.pairwise_cons.1 h2).1 y hy
theorem swap_up {U V : List Bt} {x y : Bt} : ((U ++ x :: y :: V).set U.length y).set (U.length + 1) x = U ++ y :: x :: V := by
 rw [List.set_append_right _ _ (by omega), List.set_append_right _ _ (by omega)]
 simp
set_option maxRecDepth 100000 in
theorem slices_symMerge_left [Tabs Tryz.prog] (Pf Y Tl : List Bt) (x : Bt) (N a m b : Nat) (hN : N = (Pf ++ (x :: (Y ++ Tl))).length) (hl : N ≤ 100000) (ha : a = Pf.length) (hm : m = Pf.length + 1) (hb : b = m + Y.length) (hY : Srt Y) (K : Nat) (hK : 1 ≤ K) :
   HCon Tryz.prog n_slices_symMergeCmpFunchuff_batch [.own 1000 0 (some 2) 0 N, int a, int m, int b, cmpF] [.row false (bC (Pf ++ (x :: (Y ++ Tl))))] (.tup []) [(1000, 0, .row false (bC (Pf ++ (sortB (x :: Y) ++ Tl))))] K := by
 refine HCon.of' mix Tryz.func161 rfl Tryz.ntmps161 e_slices_symMergeCmpFunchuff_batch r_slices_symMergeCmpFunchuff_batch (by simp) (by simp only [AV.gl.glL, AV.gl, int, cmpF, and_true]; omega) bC_gl ?_
 unfold s_slices_symMergeCmpFunchuff_batch
 have hlen : N = Pf.length + (Y.length + Tl.length) + 1 := by rw [hN]; simp; omega
 have d0 : decide ((m : Int) - (a : Int) = 1) = true := decide_eq_true (by omega)
 obtain ⟨W, hW⟩ : ∃ W, W = Pf ++ (x :: (Y ++ Tl)) := ⟨_, rfl⟩
 rw [← hW] at hN
 rw [← hW]
 repeat (first | refine xR @d0 ?_ | exact xU @d0)
 refine SWp.loop (α := Nat × Nat) (fun p => mk 220 1 [(0, .own 1000 0 (some 2) 0 N), (1, int a), (2, int m), (3, int b), (4, cmpF), (10, int (m + p.1 : Nat)), (11, int (m + p.2 : Nat))] [(1000, 0, .row false (bC W))])
   (fun p => p.1 ≤ p.2 ∧ p.2 ≤ Y.length ∧ (∀ y ∈ Y.take p.1, y.1 < x.1) ∧ (∀ y ∈ Y.drop p.2, x.1 ≤ y.1)) (fun p => p.2 - p.1) (0, Y.length) ⟨Nat.zero_le _, Nat.le_refl _, by simp, by simp⟩ (le_mk rfl ?_ ?_ ?_) ?_
 · exact Nat.le_refl _
 iterate 2 (case _ => (first | exact vU @hb | refine vR @hb ?_))
 rintro ⟨u, v⟩ ⟨huv, hv, hlo, hhi⟩ -
 simp only at huv hv hlo hhi
 obtain ⟨i, hi⟩ : ∃ i, i = m + u := ⟨_, rfl⟩
 obtain ⟨j, hj⟩ : ∃ j, j = m + v := ⟨_, rfl⟩
 rw [← hi, ← hj]
 repeat (first | refine xS ?_ | exact xT)
 refine SWp.cond rfl (fun h => ?_) (fun h => ?_)
 · simp only [decide_eq_true_eq] at h
   obtain ⟨w, hw⟩ : ∃ w, w = (u + v) / 2 := ⟨_, rfl⟩
   obtain ⟨q, hq⟩ : ∃ q, q = m + w := ⟨_, rfl⟩
   have hmid : IntKind.i64.wrap ((IntKind.u64.wrap ((i : Int) + (j : Int))).fdiv (2 ^ 1)) = (q : Int) := by
     rw [wrap_u64_id3 (by omega) (by omega), show ((2 : Int) ^ 1) = 2 from rfl, Int.fdiv_eq_ediv_of_nonneg _ (by omega), wrap_i64_id (by omega) (by omega)]
     omega
   have hwY : w < Y.length := by omega
   have hql : q < W.length := by omega
   have hal : a < W.length := by omega
   have e1 := load_bC hql
   have e2 := load_bC hal
   have g1 : W.getD q (0, []) = Y.getD w (0, []) := by
     rw [hW, hq, hm]
     simp only [List.getD]
     rw [List.getElem?_append_right (by omega), show Pf.length + 1 + w - Pf.length = w + 1 from by omega, List.getElem?_cons_succ, List.getElem?_append_left hwY]
   have g2 : W.getD a (0, []) = x := by rw [hW, ha]; exact getD_mid
   obtain ⟨y, hy⟩ : ∃ y, y = Y.getD w (0, []) := ⟨_, rfl⟩
   rw [g1, ← hy] at e1
   rw [g2] at e2
   have e3 : (bC W).length = N * 2 := by rw [length_bC, hN]
   have haN : a * 2 + 2 ≤ N * 2 := by omega
   have hqN : q * 2 + 2 ≤ N * 2 := by omega
   have hst := srt_take hY hwY
   have hsd := srt_drop hY hwY
   rw [← hy] at hst hsd
   repeat (first | refine xR (ja4 @hmid @e1 @e2 @e3) ?_ | exact xU (ja4 @hmid @e1 @e2 @e3))
   refine goV_at n_huff_byCount rfl (by decide) ?_
   refine goC_p _ (.inl ⟨by simp only [AV.free, AV.free.freeL, nA, free_nA, Bool.and_self], huff_byCount_c (y.1 : Int) (x.1 : Int) _ _ (by simp only [AV.free, free_nA]) (by simp only [AV.free, free_nA])⟩) ?_
   by_cases c : y.1 < x.1
   · have dc : decide (cmpI (y.1 : Int) (x.1 : Int) < 0) = true := by
       unfold cmpI; rw [if_pos (by omega)]; rfl
     repeat (first | refine xR @dc ?_ | exact xU @dc)
     refine At.of (w + 1, v) ⟨by simp only; omega, hv, fun r hr => ?_, hhi⟩ (by simp only; omega) rfl rfl (Nat.le_refl _) ?_ ?_
     · have := hst r hr; omega
     · (first | exact vT | refine vS ?_)
       try omega
     · (first | exact vT | refine vS ?_)
   · have dc : decide (cmpI (y.1 : Int) (x.1 : Int) < 0) = false := by
       unfold cmpI; rw [if_neg (by omega)]; split <;> rfl
     repeat (first | refine xR @dc ?_ | exact xU @dc)
     refine At.of (u, w) ⟨by simp only; omega, by simp only; omega, hlo, fun r hr => ?_⟩ (by simp only; omega) rfl rfl (Nat.le_refl _) ?_ ?_
     · have := hsd r hr; omega
     · (first | exact vT | refine vS ?_)
       try omega
     · (first | exact vT | refine vS ?_)
 · simp only [decide_eq_false_iff_not] at h
   obtain rfl : u = v := by omega
   obtain ⟨Yl, hYl⟩ : ∃ Yl, Yl = Y.take u := ⟨_, rfl⟩
   obtain ⟨Yr, hYr⟩ : ∃ Yr, Yr = Y.drop u := ⟨_, rfl⟩
   have hYY : Y = Yl ++ Yr := by rw [hYl, hYr, List.take_append_drop]
   have hYll : Yl.length = u := by rw [hYl, List.length_take]; omega
   have hfin : sortB (x :: Y) = Yl ++ x :: Yr := by
     rw [hYY] at hY ⊢
     exact sortB_left hY (hYl ▸ hlo) (hYr ▸ hhi)
   have hii : (i : Int) - 1 = ((a + u : Nat) : Int) := by omega
   obtain ⟨e, he⟩ : ∃ e, e = a + u := ⟨_, rfl⟩
   rw [← he] at hii
   have hWl : W = Pf ++ (x :: (Yl ++ (Yr ++ Tl))) := by rw [hW, hYY]; simp
   repeat (first | refine xS ?_ | exact xT)
   refine SWp.loop (α := List Bt × List Bt) (fun p => mk 220 1 [(0, .own 1000 0 (some 2) 0 N), (1, int a), (2, int m), (3, int b), (4, cmpF), (10, int i), (13, int (a + p.1.length : Nat))] [(1000, 0, .row false (bC (Pf ++ (p.1 ++ (x :: (p.2 ++ (Yr ++ Tl)))))))])
     (fun p => p.1 ++ p.2 = Yl) (fun p => p.2.length) ([], Yl) rfl (le_mk rfl ?_ ?_ ?_) ?_
   · exact Nat.le_refl _
   iterate 2 (case _ => (first | exact vU @hWl | refine vR @hWl ?_))
   rintro ⟨A, B⟩ hAB -
   simp only at hAB
   have hABl : A.length + B.length = u := by rw [← hYll, ← hAB]; simp
   obtain ⟨p, hp⟩ : ∃ p, p = a + A.length := ⟨_, rfl⟩
   have hUl : (Pf ++ A).length = p := by rw [hp, ha]; simp
   cases B with
   | nil =>
     have hA : A = Yl := by simpa using hAB
     have d1 : decide ((p : Int) < (e : Int)) = false := decide_eq_false (by simp at hABl; omega)
     rw [← hp]
     repeat (first | refine xR (ja4 @hii @d1 @outOf_nil @hK) ?_ | exact xU (ja4 @hii @d1 @outOf_nil @hK))
     rw [hA, hfin]; simp
   | cons y B =>
     simp only [List.length_cons] at hABl
     have d1 : decide ((p : Int) < (e : Int)) = true := decide_eq_true (by omega)
     obtain ⟨V, hV⟩ : ∃ V, V = (Pf ++ A) ++ x :: y :: (B ++ (Yr ++ Tl)) := ⟨_, rfl⟩
     have hV' : Pf ++ (A ++ (x :: ((y :: B) ++ (Yr ++ Tl)))) = V := by rw [hV]; simp
     have hVl : V.length = N := by
       rw [hV, hlen, hYY]; simp only [List.length_append, List.length_cons]; omega
     obtain ⟨q, hq⟩ : ∃ q, q = p + 1 := ⟨_, rfl⟩
     have epq : (p : Int) + 1 = (q : Int) := by omega
     have hpl : p < V.length := by
       have : u ≤ Y.length := hv
       omega
     have hql : q < V.length := by
       have : u ≤ Y.length := hv
       omega
     have e1 := load_bC hpl
     have e2 := load_bC hql
     have g1 : V.getD p (0, []) = x := by rw [hV, ← hUl]; exact getD_mid
     have g2 : V.getD q (0, []) = y := by rw [hV, hq, ← hUl]; exact getD_mid2
     rw [g1] at e1
     rw [g2] at e2
     have e3 : (bC V).length = N * 2 := by rw [length_bC, hVl]
     have s1 := store_bC (c := y.1) (s := y.2) hpl
     have e4 : (bC (V.set p (y.1, y.2))).length = N * 2 := by rw [length_bC, List.length_set, hVl]
     have s2 := store_bC (l := V.set p (y.1, y.2)) (c := x.1) (s := x.2) (i := q) (by rw [List.length_set]; exact hql)
     have hsw : (V.set p (y.1, y.2)).set q (x.1, x.2) = Pf ++ (A ++ (y :: (x :: (B ++ (Yr ++ Tl))))) := by
       rw [hV, hq, ← hUl, swap_up]; simp
     rw [hsw] at s2
     have hpN : p * 2 + 2 ≤ N * 2 := by omega
     have hqN : q * 2 + 2 ≤ N * 2 := by omega
     rw [← hp, hV']
     clear hV' hsw
     repeat (first | refine xR (ja8 @hii @d1 @epq @e1 @e2 @e3 @s1 (ja2 @e4 @s2)) ?_ | exact xU (ja8 @hii @d1 @epq @e1 @e2 @e3 @s1 (ja2 @e4 @s2)))
     refine At.of (A ++ [y], B) (by rw [← hAB]; simp) (by simp) rfl rfl (Nat.le_refl _) ?_ ?_
     · (first | exact vT | refine vS ?_)
       try omega
     · (first | exact vT | refine vS ?_)
end Go.Proofs.YtbcncdpaigljeaaGreatDoor.Aw
namespace Go.Proofs.YtbcncdpaigljeaaGreatDoor.Aw
open Go
set_option linter.unusedSimpArgs false
set_option linter.unusedVariables false
set_option maxRecDepth 100000 in
theorem slices_symMerge_right [Tabs Tryz.prog] (Pf X Tl : List Bt) (y : Bt) (N a m b : Nat) (hN : N = (Pf ++ (X ++ (y :: Tl))).length) (hl : N ≤ 100000) (ha : a = Pf.length) (hm : m = Pf.length + X.length) (hb : b = m + 1) (hX2 : 2 ≤ X.length) (hX : Srt X) (K : Nat) (hK : 1 ≤ K) :
   HCon Tryz.prog n_slices_symMergeCmpFunchuff_batch [.own 1000 0 (some 2) 0 N, int a, int m, int b, cmpF] [.row false (bC (Pf ++ (X ++ (y :: Tl))))] (.tup []) [(1000, 0, .row false (bC (Pf ++ (sortB (X ++ [y]) ++ Tl))))] K := by
 refine HCon.of' mix Tryz.func161 rfl Tryz.ntmps161 e_slices_symMergeCmpFunchuff_batch r_slices_symMergeCmpFunchuff_batch (by simp) (by simp only [AV.gl.glL, AV.gl, int, cmpF, and_true]; omega) bC_gl ?_
 unfold s_slices_symMergeCmpFunchuff_batch
 have hlen : N = Pf.length + (X.length + Tl.length) + 1 := by rw [hN]; simp; omega
 have d0 : decide ((m : Int) - (a : Int) = 1) = false := decide_eq_false (by omega)
 have d00 : decide ((b : Int) - (m : Int) = 1) = true := decide_eq_true (by omega)
 obtain ⟨W, hW⟩ : ∃ W, W = Pf ++ (X ++ (y :: Tl)) := ⟨_, rfl⟩
 rw [← hW] at hN
 rw [← hW]
 repeat (first | refine xR (ja2 @d0 @d00) ?_ | exact xU (ja2 @d0 @d00))
 refine SWp.loop (α := Nat × Nat) (fun p => mk 220 1 [(0, .own 1000 0 (some 2) 0 N), (1, int a), (2, int m), (3, int b), (4, cmpF), (14, int (a + p.1 : Nat)), (15, int (a + p.2 : Nat))] [(1000, 0, .row false (bC W))])
   (fun p => p.1 ≤ p.2 ∧ p.2 ≤ X.length ∧ (∀ x ∈ X.take p.1, x.1 ≤ y.1) ∧ (∀ x ∈ X.drop p.2, y.1 < x.1)) (fun p => p.2 - p.1) (0, X.length) ⟨Nat.zero_le _, Nat.le_refl _, by simp, by simp⟩ (le_mk rfl ?_ ?_ ?_) ?_
 · exact Nat.le_refl _
 iterate 2 (case _ => (first | exact vU (ja2 @hm @ha) | refine vR (ja2 @hm @ha) ?_))
 rintro ⟨u, v⟩ ⟨huv, hv, hlo, hhi⟩ -
 simp only at huv hv hlo hhi
 obtain ⟨i, hi⟩ : ∃ i, i = a + u := ⟨_, rfl⟩
 obtain ⟨j, hj⟩ : ∃ j, j = a + v := ⟨_, rfl⟩
 rw [← hi, ← hj]
 repeat (first | refine xS ?_ | exact xT)
 refine SWp.cond rfl (fun h => ?_) (fun h => ?_)
 · simp only [decide_eq_true_eq] at h
   obtain ⟨q, hq⟩ : ∃ q, q = (i + j) / 2 := ⟨_, rfl⟩
   obtain ⟨w, hw⟩ : ∃ w, w = q - a := ⟨_, rfl⟩
   have hmid : IntKind.i64.wrap ((IntKind.u64.wrap ((i : Int) + (j : Int))).fdiv (2 ^ 1)) = (q : Int) := by
     rw [wrap_u64_id3 (by omega) (by omega), show ((2 : Int) ^ 1) = 2 from rfl, Int.fdiv_eq_ediv_of_nonneg _ (by omega), wrap_i64_id (by omega) (by omega)]
     omega
   have hwX : w < X.length := by omega
   have hql : q < W.length := by omega
   have hml : m < W.length := by omega
   have e1 := load_bC hql
   have e2 := load_bC hml
   have g1 : W.getD q (0, []) = X.getD w (0, []) := by
     rw [hW]
     simp only [List.getD]
     rw [List.getElem?_append_right (by omega), show q - Pf.length = w from by omega, List.getElem?_append_left hwX]
   have g2 : W.getD m (0, []) = y := by
     rw [hW, ← List.append_assoc, show m = (Pf ++ X).length from by simp; omega]; exact getD_mid
   obtain ⟨x, hx⟩ : ∃ x, x = X.getD w (0, []) := ⟨_, rfl⟩
   rw [g1, ← hx] at e1
   rw [g2] at e2
   have e3 : (bC W).length = N * 2 := by rw [length_bC, hN]
   have hmN : m * 2 + 2 ≤ N * 2 := by omega
   have hqN : q * 2 + 2 ≤ N * 2 := by omega
   have hst := srt_take hX hwX
   have hsd := srt_drop hX hwX
   rw [← hx] at hst hsd
   repeat (first | refine xR (ja4 @hmid @e1 @e2 @e3) ?_ | exact xU (ja4 @hmid @e1 @e2 @e3))
   refine goV_at n_huff_byCount rfl (by decide) ?_
   refine goC_p _ (.inl ⟨by simp only [AV.free, AV.free.freeL, nA, free_nA, Bool.and_self], huff_byCount_c (y.1 : Int) (x.1 : Int) _ _ (by simp only [AV.free, free_nA]) (by simp only [AV.free, free_nA])⟩) ?_
   by_cases c : y.1 < x.1
   · have dc : decide (cmpI (y.1 : Int) (x.1 : Int) < 0) = true := by
       unfold cmpI; rw [if_pos (by omega)]; rfl
     repeat (first | refine xR @dc ?_ | exact xU @dc)
     refine At.of (u, w) ⟨by simp only; omega, by simp only; omega, hlo, fun r hr => ?_⟩ (by simp only; omega) rfl rfl (Nat.le_refl _) ?_ ?_
     · have := hsd r hr; omega
     · (first | exact vT | refine vS ?_)
       try omega
     · (first | exact vT | refine vS ?_)
   · have dc : decide (cmpI (y.1 : Int) (x.1 : Int) < 0) = false := by
       unfold cmpI; rw [if_neg (by omega)]; split <;> rfl
     repeat (first | refine xR @dc ?_ | exact xU @dc)
     refine At.of (w + 1, v) ⟨by simp only; omega, hv, fun r hr => ?_, hhi⟩ (by simp only; omega) rfl rfl (Nat.le_refl _) ?_ ?_
     · have := hst r hr; omega
     · (first | exact vT | refine vS ?_)
       try omega
     · (first | exact vT | refine vS ?_)
 · simp only [decide_eq_false_iff_not] at h
   obtain rfl : u = v := by omega
   obtain ⟨Xl, hXl⟩ : ∃ Xl, Xl = X.take u := ⟨_, rfl⟩
   obtain ⟨Xr, hXr⟩ : ∃ Xr, Xr = X.drop u := ⟨_, rfl⟩
   have hXX : X = Xl ++ Xr := by rw [hXl, hXr, List.take_append_drop]
   have hXll : Xl.length = u := by rw [hXl, List.length_take]; omega
   have hXrl : Xr.length + u = X.length := by rw [hXr, List.length_drop]; omega
   have hfin : sortB (X ++ [y]) = Xl ++ y :: Xr := by
     rw [hXX] at hX ⊢
     exact sortB_right hX (hXl ▸ hlo) (hXr ▸ hhi)
   have hWl : W = Pf ++ (Xl ++ (Xr ++ (y :: Tl))) := by rw [hW, hXX]; simp
   have him : (i : Int) + (Xr.length : Int) = (m : Int) := by omega
   repeat (first | refine xS ?_ | exact xT)
   refine SWp.loop (α := List Bt × List Bt) (fun p => mk 220 1 [(0, .own 1000 0 (some 2) 0 N), (1, int a), (2, int m), (3, int b), (4, cmpF), (14, int i), (17, int (i + p.1.length : Nat))] [(1000, 0, .row false (bC (Pf ++ (Xl ++ (p.1 ++ (y :: (p.2 ++ Tl)))))))])
     (fun p => p.1 ++ p.2 = Xr) (fun p => p.1.length) (Xr, []) (by simp) (le_mk rfl ?_ ?_ ?_) ?_
   · exact Nat.le_refl _
   iterate 2 (case _ => (first | exact vU (ja2 @him @hWl) | refine vR (ja2 @him @hWl) ?_))
   rintro ⟨A, B⟩ hAB -
   simp only at hAB
   have hABl : A.length + B.length = Xr.length := by rw [← hAB]; simp
   rcases List.eq_nil_or_concat A with rfl | ⟨A, z, rfl⟩
   · have hB : B = Xr := by simpa using hAB
     have d1 : decide ((i : Int) > (i : Int)) = false := decide_eq_false (by omega)
     repeat (first | refine xR (ja5 @List.length_nil.{0} @Nat.add_zero @d1 @outOf_nil @hK) ?_ | exact xU (ja5 @List.length_nil.{0} @Nat.add_zero @d1 @outOf_nil @hK))
     rw [hB, hfin]; simp
   · simp only [List.concat_eq_append] at hAB hABl ⊢
     simp only [List.length_append, List.length_cons, List.length_nil] at hABl
     obtain ⟨p, hp⟩ : ∃ p, p = i + A.length := ⟨_, rfl⟩
     obtain ⟨q, hq⟩ : ∃ q, q = i + (A ++ [z]).length := ⟨_, rfl⟩
     have hqp : q = p + 1 := by rw [hq, hp]; simp; omega
     have d1 : decide ((q : Int) > (i : Int)) = true := decide_eq_true (by omega)
     obtain ⟨V, hV⟩ : ∃ V, V = (Pf ++ Xl ++ A) ++ z :: y :: (B ++ Tl) := ⟨_, rfl⟩
     have hV' : Pf ++ (Xl ++ ((A ++ [z]) ++ (y :: (B ++ Tl)))) = V := by rw [hV]; simp
     have hUl : (Pf ++ Xl ++ A).length = p := by rw [hp, hi, ha]; simp; omega
     have hVl : V.length = N := by
       rw [hV, hlen]; simp only [List.length_append, List.length_cons]; omega
     have epq : (q : Int) - 1 = (p : Int) := by omega
     have hpl : p < V.length := by omega
     have hql : q < V.length := by omega
     have e1 := load_bC hpl
     have e2 := load_bC hql
     have g1 : V.getD p (0, []) = z := by rw [hV, ← hUl]; exact getD_mid
     have g2 : V.getD q (0, []) = y := by rw [hV, hqp, ← hUl]; exact getD_mid2
     rw [g1] at e1
     rw [g2] at e2
     have e3 : (bC V).length = N * 2 := by rw [length_bC, hVl]
     have s1 := store_bC (c := z.1) (s := z.2) hql
     have e4 : (bC (V.set q (z.1, z.2))).length = N * 2 := by rw [length_bC, List.length_set, hVl]
     have s2 := store_bC (l := V.set q (z.1, z.2)) (c := y.1) (s := y.2) (i := p) (by rw [List.length_set]; exact hpl)
     have hsw : (V.set q (z.1, z.2)).set p (y.1, y.2) = Pf ++ (Xl ++ (A ++ (y :: (z :: (B ++ Tl))))) := by
       rw [hV, hqp, ← hUl, swap_mid]; simp
     rw [hsw] at s2
     have hpN : p * 2 + 2 ≤ N * 2 := by omega
     have hqN : q * 2 + 2 ≤ N * 2 := by omega
     rw [← hq, hV']
     clear hV' hsw
     repeat (first | refine xR (ja8 @d1 @epq @e1 @e2 @e3 @s1 @e4 @s2) ?_ | exact xU (ja8 @d1 @epq @e1 @e2 @e3 @s1 @e4 @s2))
     refine At.of (A, z :: B) (by rw [← hAB]; simp) (by simp) rfl rfl (Nat.le_refl _) ?_ ?_
     · (first | exact vT | refine vS ?_)
       try omega
     · (first | exact vT | refine vS ?_)
end Go.Proofs.YtbcncdpaigljeaaGreatDoor.Aw
namespace Go.Proofs.YtbcncdpaigljeaaGreatDoor.Aw
open Go
set_option linter.unusedSimpArgs false
set_option linter.unusedVariables false
def KM (n : Nat) : Nat := 10 * n * n
theorem KM_pos {n : Nat} (h : 1 ≤ n) : 1 ≤ KM n := by
 have := Nat.mul_le_mul h h
 unfold KM; rw [Nat.mul_assoc]; omega
theorem KM_add {p q : Nat} (hp : 1 ≤ p) (hq : 1 ≤ q) : 3 + (p + q) + KM p + KM q ≤ KM (p + q) := by
 unfold KM
 have e : 10 * (p + q) * (p + q) = 10 * p * p + 10 * q * q + 20 * (p * q) := by
   simp only [Nat.mul_add, Nat.add_mul, Nat.mul_assoc, Nat.mul_comm q p]
   omega
 have h1 : p + q ≤ p * q + 1 := by
   obtain ⟨p', rfl⟩ : ∃ p', p = p' + 1 := ⟨p - 1, by omega⟩
   obtain ⟨q', rfl⟩ : ∃ q', q = q' + 1 := ⟨q - 1, by omega⟩
   simp only [Nat.add_mul, Nat.mul_add, Nat.mul_one, Nat.one_mul]
   omega
 have h2 := Nat.mul_le_mul hp hq
 omega
set_option maxHeartbeats 4000000 in
set_option maxRecDepth 100000 in
theorem slices_symMerge_h [Tabs Tryz.prog] : ∀ (n : Nat) (Pf X Y Tl : List Bt) (N a m b : Nat), X.length + Y.length = n → N = (Pf ++ (X ++ (Y ++ Tl))).length → N ≤ 100000 → a = Pf.length → m = Pf.length + X.length → b = m + Y.length → 1 ≤ X.length → 1 ≤ Y.length → Srt X → Srt Y →
   HCon Tryz.prog n_slices_symMergeCmpFunchuff_batch [.own 1000 0 (some 2) 0 N, int a, int m, int b, cmpF] [.row false (bC (Pf ++ (X ++ (Y ++ Tl))))] (.tup []) [(1000, 0, .row false (bC (Pf ++ (sortB (X ++ Y) ++ Tl))))] (KM n) := by
 intro n
 induction n using Nat.strongRecOn with
 | _ n ih =>
 intro Pf X Y Tl N a m b hn hN hl ha hm hb hX1 hY1 hX hY
 by_cases c1 : X.length = 1
 · obtain ⟨x, rfl⟩ := List.length_eq_one_iff.1 c1
   exact slices_symMerge_left Pf Y Tl x N a m b hN hl ha hm hb hY (KM n) (KM_pos (by omega))
 by_cases c2 : Y.length = 1
 · obtain ⟨y, rfl⟩ := List.length_eq_one_iff.1 c2
   exact slices_symMerge_right Pf X Tl y N a m b hN hl ha hm hb (by omega) hX (KM n) (KM_pos (by omega))
 refine HCon.of' mix Tryz.func161 rfl Tryz.ntmps161 e_slices_symMergeCmpFunchuff_batch r_slices_symMergeCmpFunchuff_batch (by simp) (by simp only [AV.gl.glL, AV.gl, int, cmpF, and_true]; omega) bC_gl ?_
 unfold s_slices_symMergeCmpFunchuff_batch
 have hlen : N = Pf.length + (X.length + (Y.length + Tl.length)) := by rw [hN]; simp
 have d0 : decide ((m : Int) - (a : Int) = 1) = false := decide_eq_false (by omega)
 have d00 : decide ((b : Int) - (m : Int) = 1) = false := decide_eq_false (by omega)
 obtain ⟨mid, hmid⟩ : ∃ mid, mid = (a + b) / 2 := ⟨_, rfl⟩
 obtain ⟨nn, hnn⟩ : ∃ nn, nn = mid + m := ⟨_, rfl⟩
 obtain ⟨pp, hpp⟩ : ∃ pp, pp = nn - 1 := ⟨_, rfl⟩
 have emid : IntKind.i64.wrap ((IntKind.u64.wrap ((a : Int) + (b : Int))).fdiv (2 ^ 1)) = (mid : Int) := by
   rw [wrap_u64_id3 (by omega) (by omega), show ((2 : Int) ^ 1) = 2 from rfl, Int.fdiv_eq_ediv_of_nonneg _ (by omega), wrap_i64_id (by omega) (by omega)]
   omega
 have enn : (mid : Int) + (m : Int) = (nn : Int) := by omega
 have epp : (nn : Int) - 1 = (pp : Int) := by omega
 obtain ⟨W, hW⟩ : ∃ W, W = Pf ++ (X ++ (Y ++ Tl)) := ⟨_, rfl⟩
 rw [← hW] at hN
 rw [← hW]
 by_cases hmm : mid < m
 · have dm : decide ((m : Int) > (mid : Int)) = true := decide_eq_true (by omega)
   obtain ⟨s0, hs0⟩ : ∃ s0, s0 = nn - b := ⟨_, rfl⟩
   obtain ⟨r0, hr0⟩ : ∃ r0, r0 = mid := ⟨_, rfl⟩
   have es0 : (nn : Int) - (b : Int) = (s0 : Int) := by omega
   have b1 : a ≤ s0 := by omega
   have b2 : s0 ≤ r0 := by omega
   have b3 : r0 ≤ m := by omega
   have b4 : nn - s0 ≤ b := by omega
   have b5 : m ≤ nn - r0 := by omega
   have i1 : ∀ x ∈ X.take (s0 - a), ∀ y ∈ Y.drop (nn - s0 - m), x.1 ≤ y.1 := fun x _ y hy => by
     rw [List.drop_of_length_le (by omega)] at hy; simp at hy
   have i2 : ∀ y ∈ Y.take (nn - r0 - m), ∀ x ∈ X.drop (r0 - a), y.1 < x.1 := fun y hy => by
     rw [show nn - r0 - m = 0 from by omega] at hy; simp at hy
   repeat (first | refine xR (ja7 @d0 @d00 @emid @enn @dm @es0 @epp) ?_ | exact xU (ja7 @d0 @d00 @emid @enn @dm @es0 @epp))
   refine SWp.loop (α := Nat × Nat) (fun p => mk 220 1 [(0, .own 1000 0 (some 2) 0 N), (1, int a), (2, int m), (3, int b), (4, cmpF), (18, int mid), (19, int nn), (20, int p.1), (21, int p.2), (22, int pp)] [(1000, 0, .row false (bC W))])
     (fun p => a ≤ p.1 ∧ p.1 ≤ p.2 ∧ p.2 ≤ m ∧ nn - p.1 ≤ b ∧ m ≤ nn - p.2 ∧ (∀ x ∈ X.take (p.1 - a), ∀ y ∈ Y.drop (nn - p.1 - m), x.1 ≤ y.1) ∧ (∀ y ∈ Y.take (nn - p.2 - m), ∀ x ∈ X.drop (p.2 - a), y.1 < x.1)) (fun p => p.2 - p.1) (s0, r0) ⟨b1, b2, b3, b4, b5, i1, i2⟩ (le_mk rfl ?_ ?_ ?_) ?_
   · exact Nat.le_refl _
   iterate 2 (case _ => (first | exact vU (ja2 @hs0 @hr0) | refine vR (ja2 @hs0 @hr0) ?_))
   clear i1 i2 b1 b2 b3 b4 b5
   rintro ⟨s, r⟩ ⟨b1, b2, b3, b4, b5, i1, i2⟩ -
   simp only at b1 b2 b3 b4 b5 i1 i2
   repeat (first | refine xS ?_ | exact xT)
   refine SWp.cond rfl (fun h => ?_) (fun h => ?_)
   · simp only [decide_eq_true_eq] at h
     obtain ⟨q, hq⟩ : ∃ q, q = (s + r) / 2 := ⟨_, rfl⟩
     obtain ⟨e, he⟩ : ∃ e, e = pp - q := ⟨_, rfl⟩
     have eq1 : IntKind.i64.wrap ((IntKind.u64.wrap ((s : Int) + (r : Int))).fdiv (2 ^ 1)) = (q : Int) := by
       rw [wrap_u64_id3 (by omega) (by omega), show ((2 : Int) ^ 1) = 2 from rfl, Int.fdiv_eq_ediv_of_nonneg _ (by omega), wrap_i64_id (by omega) (by omega)]
       omega
     have eq2 : (pp : Int) - (q : Int) = (e : Int) := by omega
     obtain ⟨u, hu⟩ : ∃ u, u = q - a := ⟨_, rfl⟩
     obtain ⟨v, hv⟩ : ∃ v, v = e - m := ⟨_, rfl⟩
     have huX : u < X.length := by omega
     have hvY : v < Y.length := by omega
     have hql : q < W.length := by omega
     have hel : e < W.length := by omega
     have e1 := load_bC hql
     have e2 := load_bC hel
     have g1 : W.getD q (0, []) = X.getD u (0, []) := by
       rw [hW]
       simp only [List.getD]
       rw [List.getElem?_append_right (by omega), show q - Pf.length = u from by omega, List.getElem?_append_left huX]
     have g2 : W.getD e (0, []) = Y.getD v (0, []) := by
       rw [hW]
       simp only [List.getD]
       rw [List.getElem?_append_right (by omega), List.getElem?_append_right (by omega), show e - Pf.length - X.length = v from by omega, List.getElem?_append_left hvY]
     obtain ⟨x, hx⟩ : ∃ x, x = X.getD u (0, []) := ⟨_, rfl⟩
     obtain ⟨y, hy⟩ : ∃ y, y = Y.getD v (0, []) := ⟨_, rfl⟩
     rw [g1, ← hx] at e1
     rw [g2, ← hy] at e2
     have e3 : (bC W).length = N * 2 := by rw [length_bC, hN]
     have heN : e * 2 + 2 ≤ N * 2 := by omega
     have hqN : q * 2 + 2 ≤ N * 2 := by omega
     have x1 := srt_take hX huX
     have x2 := srt_drop hX huX
     have y1 := srt_take hY hvY
     have y2 := srt_drop hY hvY
     rw [← hx] at x1 x2
     rw [← hy] at y1 y2
     repeat (first | refine xR (ja5 @eq1 @eq2 @e1 @e2 @e3) ?_ | exact xU (ja5 @eq1 @eq2 @e1 @e2 @e3))
     refine goV_at n_huff_byCount rfl (by decide) ?_
     refine goC_p _ (.inl ⟨by simp only [AV.free, AV.free.freeL, nA, free_nA, Bool.and_self], huff_byCount_c (y.1 : Int) (x.1 : Int) _ _ (by simp only [AV.free, free_nA]) (by simp only [AV.free, free_nA])⟩) ?_
     by_cases c : y.1 < x.1
     · have dc : decide (cmpI (y.1 : Int) (x.1 : Int) < 0) = true := by
         unfold cmpI; rw [if_pos (by omega)]; rfl
       repeat (first | refine xR @dc ?_ | exact xU @dc)
       refine At.of (s, q) ⟨b1, by simp only; omega, by simp only; omega, b4, by simp only; omega, i1, fun y' hy' x' hx' => ?_⟩ (by simp only; omega) rfl rfl (Nat.le_refl _) ?_ ?_
       · simp only at hy' hx'
         rw [show nn - q - m = v + 1 from by omega] at hy'
         rw [show q - a = u from by omega] at hx'
         have h1 := y1 y' hy'
         have h2 := x2 x' hx'
         omega
       · (first | exact vT | refine vS ?_)
         try omega
       · (first | exact vT | refine vS ?_)
     · have dc : decide (cmpI (y.1 : Int) (x.1 : Int) < 0) = false := by
         unfold cmpI; rw [if_neg (by omega)]; split <;> rfl
       repeat (first | refine xR @dc ?_ | exact xU @dc)
       refine At.of (q + 1, r) ⟨by simp only; omega, by simp only; omega, b3, by simp only; omega, b5, fun x' hx' y' hy' => ?_, i2⟩ (by simp only; omega) rfl rfl (Nat.le_refl _) ?_ ?_
       · simp only at hy' hx'
         rw [show nn - (q + 1) - m = v from by omega] at hy'
         rw [show q + 1 - a = u + 1 from by omega] at hx'
         have h1 := x1 x' hx'
         have h2 := y2 y' hy'
         omega
       · (first | exact vT | refine vS ?_)
         try omega
       · (first | exact vT | refine vS ?_)
   · simp only [decide_eq_false_iff_not] at h
     obtain rfl : s = r := by omega
     obtain ⟨X1, hX1'⟩ : ∃ X1, X1 = X.take (s - a) := ⟨_, rfl⟩
     obtain ⟨X2, hX2'⟩ : ∃ X2, X2 = X.drop (s - a) := ⟨_, rfl⟩
     obtain ⟨Y1, hY1'⟩ : ∃ Y1, Y1 = Y.take (nn - s - m) := ⟨_, rfl⟩
     obtain ⟨Y2, hY2'⟩ : ∃ Y2, Y2 = Y.drop (nn - s - m) := ⟨_, rfl⟩
     rw [← hX1', ← hY2'] at i1
     rw [← hY1', ← hX2'] at i2
     have hXX : X = X1 ++ X2 := by rw [hX1', hX2', List.take_append_drop]
     have hYY : Y = Y1 ++ Y2 := by rw [hY1', hY2', List.take_append_drop]
     obtain ⟨e, he⟩ : ∃ e, e = nn - s := ⟨_, rfl⟩
     have l1 : X1.length = s - a := by rw [hX1', List.length_take]; omega
     have l2 : X2.length = m - s := by rw [hX2', List.length_drop]; omega
     have l3 : Y1.length = e - m := by rw [hY1', List.length_take]; omega
     have l4 : Y2.length = b - e := by rw [hY2', List.length_drop]; omega
     have eens : (nn : Int) - (s : Int) = (e : Int) := by omega
     have hWl : W = Pf ++ (X1 ++ (X2 ++ (Y1 ++ (Y2 ++ Tl)))) := by rw [hW, hXX, hYY]; simp
     have sX := hX
     have sY := hY
     rw [hXX] at sX
     rw [hYY] at sY
     have hcut := sortB_cut sX sY i1 i2
     rw [← hXX, ← hYY] at hcut
     obtain ⟨sX1, sX2, _⟩ := List.pairwise_append.1 sX
     obtain ⟨sY1, sY2, _⟩ := List.pairwise_append.1 sY
     iterate 4 (first | refine xR @eens ?_ | exact xU @eens)
     have lp : X1.length + Y1.length = mid - a := by omega
     have lq : X2.length + Y2.length = b - mid := by omega
     have hKK := KM_add (p := X1.length + Y1.length) (q := X2.length + Y2.length) (by omega) (by omega)
     rw [show X1.length + Y1.length + (X2.length + Y2.length) = n from by omega] at hKK
     obtain ⟨g1, hg1⟩ : ∃ g1, g1 = 1 + (2 + (X2.length + Y1.length)) := ⟨_, rfl⟩
     refine SWp.toT (F := mk 220 g1 [(0, .own 1000 0 (some 2) 0 N), (1, int a), (2, int m), (3, int b), (4, cmpF), (18, int mid), (20, int s), (24, int e)] [(1000, 0, .row false (bC (Pf ++ (X1 ++ (Y1 ++ (X2 ++ (Y2 ++ Tl)))))))]) ?_ ?_
     · by_cases ca : s < m
       · have dA1 : decide ((s : Int) < (m : Int)) = true := decide_eq_true (by omega)
         by_cases cb : m < e
         · have dA2 : decide ((m : Int) < (e : Int)) = true := decide_eq_true (by omega)
           have hrot := slices_rotate_h (Pf ++ X1) X2 Y1 (Y2 ++ Tl) N s m e (by rw [hN, hWl]; simp) hl (by simp; omega) (by simp; omega) (by simp; omega) (by omega) (by omega)
           simp only [List.append_assoc] at hrot
           rw [← hWl] at hrot
           repeat (first | refine xR (ja2 @dA1 @dA2) ?_ | exact xU (ja2 @dA1 @dA2))
           refine goC_h [(1000, 0)] 2000 hrot (by simp) (by simp) ?_ ?_ ?_
           iterate 2 (case _ => (first | exact vU (ja2 @renL_bC @cmpF.eq_1) | refine vR (ja2 @renL_bC @cmpF.eq_1) ?_))
           repeat (first | refine xR @renL_bC ?_ | exact xU @renL_bC)
           refine le_mk rfl ?_ ?_ ?_
           · show 1 + (2 + (X2.length + Y1.length)) ≤ g1
             omega
           iterate 2 (case _ => (first | exact vT | refine vS ?_))
         · have dA2 : decide ((m : Int) < (e : Int)) = false := decide_eq_false (by omega)
           have hY0 : Y1 = [] := List.eq_nil_of_length_eq_zero (by omega)
           repeat (first | refine xR (ja2 @dA1 @dA2) ?_ | exact xU (ja2 @dA1 @dA2))
           refine SWp.skip (le_mk rfl ?_ ?_ ?_)
           · show 1 ≤ g1
             omega
           iterate 2 (case _ => (first | exact vU (ja2 @hWl @hY0) | refine vR (ja2 @hWl @hY0) ?_))
       · have dA1 : decide ((s : Int) < (m : Int)) = false := decide_eq_false (by omega)
         have hX0 : X2 = [] := List.eq_nil_of_length_eq_zero (by omega)
         repeat (first | refine xR @dA1 ?_ | exact xU @dA1)
         refine SWp.skip (le_mk rfl ?_ ?_ ?_)
         · show 1 ≤ g1
           omega
         iterate 2 (case _ => (first | exact vU (ja2 @hWl @hX0) | refine vR (ja2 @hWl @hX0) ?_))
     obtain ⟨g2, hg2⟩ : ∃ g2, g2 = g1 + KM (X1.length + Y1.length) := ⟨_, rfl⟩
     refine SWp.to (F := mk 220 g2 [(0, .own 1000 0 (some 2) 0 N), (1, int a), (2, int m), (3, int b), (4, cmpF), (18, int mid), (20, int s), (24, int e)] [(1000, 0, .row false (bC (Pf ++ (sortB (X1 ++ Y1) ++ (X2 ++ (Y2 ++ Tl))))))]) ?_ ?_
     · by_cases ca : a < s
       · have dB1 : decide ((a : Int) < (s : Int)) = true := decide_eq_true (by omega)
         by_cases cb : s < mid
         · have dB2 : decide ((s : Int) < (mid : Int)) = true := decide_eq_true (by omega)
           have hrec := ih (X1.length + Y1.length) (by omega) Pf X1 Y1 (X2 ++ (Y2 ++ Tl)) N a s mid rfl (by rw [hN, hWl]; simp; omega) hl ha (by omega) (by omega) (by omega) (by omega) sX1 sY1
           repeat (first | refine xR (ja2 @dB1 @dB2) ?_ | exact xU (ja2 @dB1 @dB2))
           refine goC_h [(1000, 0)] 2000 hrec (by simp) (by simp) ?_ ?_ ?_
           iterate 2 (case _ => (first | exact vU (ja2 @renL_bC @cmpF.eq_1) | refine vR (ja2 @renL_bC @cmpF.eq_1) ?_))
           repeat (first | refine xR @renL_bC ?_ | exact xU @renL_bC)
           refine le_mk rfl ?_ ?_ ?_
           · show g1 + KM (X1.length + Y1.length) ≤ g2
             omega
           iterate 2 (case _ => (first | exact vT | refine vS ?_))
         · have dB2 : decide ((s : Int) < (mid : Int)) = false := decide_eq_false (by omega)
           have hY0 : Y1 = [] := List.eq_nil_of_length_eq_zero (by omega)
           have hsx := sortB_id sX1
           repeat (first | refine xR (ja2 @dB1 @dB2) ?_ | exact xU (ja2 @dB1 @dB2))
           refine SWp.skip (le_mk rfl ?_ ?_ ?_)
           · show g1 ≤ g2
             omega
           iterate 2 (case _ => (first | exact vU (ja3 @hY0 @hsx @List.append_nil.{0}) | refine vR (ja3 @hY0 @hsx @List.append_nil.{0}) ?_))
       · have dB1 : decide ((a : Int) < (s : Int)) = false := decide_eq_false (by omega)
         have hX0 : X1 = [] := List.eq_nil_of_length_eq_zero (by omega)
         have hsy := sortB_id sY1
         repeat (first | refine xR @dB1 ?_ | exact xU @dB1)
         refine SWp.skip (le_mk rfl ?_ ?_ ?_)
         · show g1 ≤ g2
           omega
         iterate 2 (case _ => (first | exact vU (ja3 @hX0 @hsy @List.nil_append.{0}) | refine vR (ja3 @hX0 @hsy @List.nil_append.{0}) ?_))
     have hfin : Pf ++ (sortB (X1 ++ Y1) ++ (sortB (X2 ++ Y2) ++ Tl)) = Pf ++ (sortB (X ++ Y) ++ Tl) := by rw [hcut]; simp
     by_cases ca : mid < e
     · have dC1 : decide ((mid : Int) < (e : Int)) = true := decide_eq_true (by omega)
       by_cases cb : e < b
       · have dC2 : decide ((e : Int) < (b : Int)) = true := decide_eq_true (by omega)
         have hrec := ih (X2.length + Y2.length) (by omega) (Pf ++ sortB (X1 ++ Y1)) X2 Y2 Tl N mid e b rfl (by rw [hN, hWl]; simp [length_sortB]; omega) hl (by simp [length_sortB]; omega) (by simp [length_sortB]; omega) (by omega) (by omega) (by omega) sX2 sY2
         simp only [List.append_assoc] at hrec
         rw [hfin] at hrec
         repeat (first | refine xR (ja2 @dC1 @dC2) ?_ | exact xU (ja2 @dC1 @dC2))
         refine goC_h [(1000, 0)] 2000 hrec (by simp) (by simp) ?_ ?_ ?_
         iterate 2 (case _ => (first | exact vU (ja2 @renL_bC @cmpF.eq_1) | refine vR (ja2 @renL_bC @cmpF.eq_1) ?_))
         repeat (first | refine xR (ja2 @renL_bC @outOf_nil) ?_ | exact xU (ja2 @renL_bC @outOf_nil))
         omega
       · have dC2 : decide ((e : Int) < (b : Int)) = false := decide_eq_false (by omega)
         have hY0 : Y2 = [] := List.eq_nil_of_length_eq_zero (by omega)
         have hsx := sortB_id sX2
         have hg : g2 ≤ KM n := by omega
         rw [hY0, List.append_nil, hsx] at hfin
         repeat (first | refine xR (ja7 @dC1 @dC2 @outOf_nil @hY0 @List.nil_append.{0} @hfin @hg) ?_ | exact xU (ja7 @dC1 @dC2 @outOf_nil @hY0 @List.nil_append.{0} @hfin @hg))
     · have dC1 : decide ((mid : Int) < (e : Int)) = false := decide_eq_false (by omega)
       have hX0 : X2 = [] := List.eq_nil_of_length_eq_zero (by omega)
       have hsy := sortB_id sY2
       have hg : g2 ≤ KM n := by omega
       rw [hX0, List.nil_append, hsy] at hfin
       repeat (first | refine xR (ja6 @dC1 @outOf_nil @hX0 @List.nil_append.{0} @hfin @hg) ?_ | exact xU (ja6 @dC1 @outOf_nil @hX0 @List.nil_append.{0} @hfin @hg))
 · have dm : decide ((m : Int) > (mid : Int)) = false := decide_eq_false (by omega)
   obtain ⟨s0, hs0⟩ : ∃ s0, s0 = a := ⟨_, rfl⟩
   obtain ⟨r0, hr0⟩ : ∃ r0, r0 = m := ⟨_, rfl⟩
   have b1 : a ≤ s0 := by omega
   have b2 : s0 ≤ r0 := by omega
   have b3 : r0 ≤ m := by omega
   have b4 : nn - s0 ≤ b := by omega
   have b5 : m ≤ nn - r0 := by omega
   have i1 : ∀ x ∈ X.take (s0 - a), ∀ y ∈ Y.drop (nn - s0 - m), x.1 ≤ y.1 := fun x hx => by
     rw [show s0 - a = 0 from by omega] at hx; simp at hx
   have i2 : ∀ y ∈ Y.take (nn - r0 - m), ∀ x ∈ X.drop (r0 - a), y.1 < x.1 := fun y _ x hx => by
     rw [List.drop_of_length_le (by omega)] at hx; simp at hx
   repeat (first | refine xR (ja6 @d0 @d00 @emid @enn @dm @epp) ?_ | exact xU (ja6 @d0 @d00 @emid @enn @dm @epp))
   refine SWp.loop (α := Nat × Nat) (fun p => mk 220 1 [(0, .own 1000 0 (some 2) 0 N), (1, int a), (2, int m), (3, int b), (4, cmpF), (18, int mid), (19, int nn), (20, int p.1), (21, int p.2), (22, int pp)] [(1000, 0, .row false (bC W))])
     (fun p => a ≤ p.1 ∧ p.1 ≤ p.2 ∧ p.2 ≤ m ∧ nn - p.1 ≤ b ∧ m ≤ nn - p.2 ∧ (∀ x ∈ X.take (p.1 - a), ∀ y ∈ Y.drop (nn - p.1 - m), x.1 ≤ y.1) ∧ (∀ y ∈ Y.take (nn - p.2 - m), ∀ x ∈ X.drop (p.2 - a), y.1 < x.1)) (fun p => p.2 - p.1) (s0, r0) ⟨b1, b2, b3, b4, b5, i1, i2⟩ (le_mk rfl ?_ ?_ ?_) ?_
   · exact Nat.le_refl _
   iterate 2 (case _ => (first | exact vU (ja2 @hs0 @hr0) | refine vR (ja2 @hs0 @hr0) ?_))
   clear i1 i2 b1 b2 b3 b4 b5
   rintro ⟨s, r⟩ ⟨b1, b2, b3, b4, b5, i1, i2⟩ -
   simp only at b1 b2 b3 b4 b5 i1 i2
   repeat (first | refine xS ?_ | exact xT)
   refine SWp.cond rfl (fun h => ?_) (fun h => ?_)
   · simp only [decide_eq_true_eq] at h
     obtain ⟨q, hq⟩ : ∃ q, q = (s + r) / 2 := ⟨_, rfl⟩
     obtain ⟨e, he⟩ : ∃ e, e = pp - q := ⟨_, rfl⟩
     have eq1 : IntKind.i64.wrap ((IntKind.u64.wrap ((s : Int) + (r : Int))).fdiv (2 ^ 1)) = (q : Int) := by
       rw [wrap_u64_id3 (by omega) (by omega), show ((2 : Int) ^ 1) = 2 from rfl, Int.fdiv_eq_ediv_of_nonneg _ (by omega), wrap_i64_id (by omega) (by omega)]
       omega
     have eq2 : (pp : Int) - (q : Int) = (e : Int) := by omega
     obtain ⟨u, hu⟩ : ∃ u, u = q - a := ⟨_, rfl⟩
     obtain ⟨v, hv⟩ : ∃ v, v = e - m := ⟨_, rfl⟩
     have huX : u < X.length := by omega
     have hvY : v < Y.length := by omega
     have hql : q < W.length := by omega
     have hel : e < W.length := by omega
     have e1 := load_bC hql
     have e2 := load_bC hel
     have g1 : W.getD q (0, []) = X.getD u (0, []) := by
       rw [hW]
       simp only [List.getD]
       rw [List.getElem?_append_right (by omega), show q - Pf.length = u from by omega, List.getElem?_append_left huX]
     have g2 : W.getD e (0, []) = Y.getD v (0, []) := by
       rw [hW]
       simp only [List.getD]
       rw [List.getElem?_append_right (by omega), List.getElem?_append_right (by omega), show e - Pf.length - X.length = v from by omega, List.getElem?_append_left hvY]
     obtain ⟨x, hx⟩ : ∃ x, x = X.getD u (0, []) := ⟨_, rfl⟩
     obtain ⟨y, hy⟩ : ∃ y, y = Y.getD v (0, []) := ⟨_, rfl⟩
     rw [g1, ← hx] at e1
     rw [g2, ← hy] at e2
     have e3 : (bC W).length = N * 2 := by rw [length_bC, hN]
     have heN : e * 2 + 2 ≤ N * 2 := by omega
     have hqN : q * 2 + 2 ≤ N * 2 := by omega
     have x1 := srt_take hX huX
     have x2 := srt_drop hX huX
     have y1 := srt_take hY hvY
     have y2 := srt_drop hY hvY
     rw [← hx] at x1 x2
     rw [← hy] at y1 y2
     repeat (first | refine xR (ja5 @eq1 @eq2 @e1 @e2 @e3) ?_ | exact xU (ja5 @eq1 @eq2 @e1 @e2 @e3))
     refine goV_at n_huff_byCount rfl (by decide) ?_
     refine goC_p _ (.inl ⟨by simp only [AV.free, AV.free.freeL, nA, free_nA, Bool.and_self], huff_byCount_c (y.1 : Int) (x.1 : Int) _ _ (by simp only [AV.free, free_nA]) (by simp only [AV.free, free_nA])⟩) ?_
     by_cases c : y.1 < x.1
     · have dc : decide (cmpI (y.1 : Int) (x.1 : Int) < 0) = true := by
         unfold cmpI; rw [if_pos (by omega)]; rfl
       repeat (first | refine xR @dc ?_ | exact xU @dc)
       refine At.of (s, q) ⟨b1, by simp only; omega, by simp only; omega, b4, by simp only; omega, i1, fun y' hy' x' hx' => ?_⟩ (by simp only; omega) rfl rfl (Nat.le_refl _) ?_ ?_
       · simp only at hy' hx'
         rw [show nn - q - m = v + 1 from by omega] at hy'
         rw [show q - a = u from by omega] at hx'
         have h1 := y1 y' hy'
         have h2 := x2 x' hx'
         omega
       · (first | exact vT | refine vS ?_)
         try omega
       · (first | exact vT | refine vS ?_)
     · have dc : decide (cmpI (y.1 : Int) (x.1 : Int) < 0) = false := by
         unfold cmpI; rw [if_neg (by omega)]; split <;> rfl
       repeat (first | refine xR @dc ?_ | exact xU @dc)
       refine At.of (q + 1, r) ⟨by simp only; omega, by simp only; omega, b3, by simp only; omega, b5, fun x' hx' y' hy' => ?_, i2⟩ (by simp only; omega) rfl rfl (Nat.le_refl _) ?_ ?_
       · simp only at hy' hx'
         rw [show nn - (q + 1) - m = v from by omega] at hy'
         rw [show q + 1 - a = u + 1 from by omega] at hx'
         have h1 := x1 x' hx'
         have h2 := y2 y' hy'
         omega
       · (first | exact vT | refine vS ?_)
         try omega
       · (first | exact vT | refine vS ?_)
   · simp only [decide_eq_false_iff_not] at h
     obtain rfl : s = r := by omega
     obtain ⟨X1, hX1'⟩ : ∃ X1, X1 = X.take (s - a) := ⟨_, rfl⟩
     obtain ⟨X2, hX2'⟩ : ∃ X2, X2 = X.drop (s - a) := ⟨_, rfl⟩
     obtain ⟨Y1, hY1'⟩ : ∃ Y1, Y1 = Y.take (nn - s - m) := ⟨_, rfl⟩
     obtain ⟨Y2, hY2'⟩ : ∃ Y2, Y2 = Y.drop (nn - s - m) := ⟨_, rfl⟩
     rw [← hX1', ← hY2'] at i1
     rw [← hY1', ← hX2'] at i2
     have hXX : X = X1 ++ X2 := by rw [hX1', hX2', List.take_append_drop]
     have hYY : Y = Y1 ++ Y2 := by rw [hY1', hY2', List.take_append_drop]
     obtain ⟨e, he⟩ : ∃ e, e = nn - s := ⟨_, rfl⟩
     have l1 : X1.length = s - a := by rw [hX1', List.length_take]; omega
     have l2 : X2.length = m - s := by rw [hX2', List.length_drop]; omega
     have l3 : Y1.length = e - m := by rw [hY1', List.length_take]; omega
     have l4 : Y2.length = b - e := by rw [hY2', List.length_drop]; omega
     have eens : (nn : Int) - (s : Int) = (e : Int) := by omega
     have hWl : W = Pf ++ (X1 ++ (X2 ++ (Y1 ++ (Y2 ++ Tl)))) := by rw [hW, hXX, hYY]; simp
     have sX := hX
     have sY := hY
     rw [hXX] at sX
     rw [hYY] at sY
     have hcut := sortB_cut sX sY i1 i2
     rw [← hXX, ← hYY] at hcut
     obtain ⟨sX1, sX2, _⟩ := List.pairwise_append.1 sX
     obtain ⟨sY1, sY2, _⟩ := List.pairwise_append.1 sY
     iterate 4 (first | refine xR @eens ?_ | exact xU @eens)
     have lp : X1.length + Y1.length = mid - a := by omega
     have lq : X2.length + Y2.length = b - mid := by omega
     have hKK := KM_add (p := X1.length + Y1.length) (q := X2.length + Y2.length) (by omega) (by omega)
     rw [show X1.length + Y1.length + (X2.length + Y2.length) = n from by omega] at hKK
     obtain ⟨g1, hg1⟩ : ∃ g1, g1 = 1 + (2 + (X2.length + Y1.length)) := ⟨_, rfl⟩
     refine SWp.toT (F := mk 220 g1 [(0, .own 1000 0 (some 2) 0 N), (1, int a), (2, int m), (3, int b), (4, cmpF), (18, int mid), (20, int s), (24, int e)] [(1000, 0, .row false (bC (Pf ++ (X1 ++ (Y1 ++ (X2 ++ (Y2 ++ Tl)))))))]) ?_ ?_
     · by_cases ca : s < m
       · have dA1 : decide ((s : Int) < (m : Int)) = true := decide_eq_true (by omega)
         by_cases cb : m < e
         · have dA2 : decide ((m : Int) < (e : Int)) = true := decide_eq_true (by omega)
           have hrot := slices_rotate_h (Pf ++ X1) X2 Y1 (Y2 ++ Tl) N s m e (by rw [hN, hWl]; simp) hl (by simp; omega) (by simp; omega) (by simp; omega) (by omega) (by omega)
           simp only [List.append_assoc] at hrot
           rw [← hWl] at hrot
           repeat (first | refine xR (ja2 @dA1 @dA2) ?_ | exact xU (ja2 @dA1 @dA2))
           refine goC_h [(1000, 0)] 2000 hrot (by simp) (by simp) ?_ ?_ ?_
           iterate 2 (case _ => (first | exact vU (ja2 @renL_bC @cmpF.eq_1) | refine vR (ja2 @renL_bC @cmpF.eq_1) ?_))
           repeat (first | refine xR @renL_bC ?_ | exact xU @renL_bC)
           refine le_mk rfl ?_ ?_ ?_
           · show 1 + (2 + (X2.length + Y1.length)) ≤ g1
             omega
           iterate 2 (case _ => (first | exact vT | refine vS ?_))
         · have dA2 : decide ((m : Int) < (e : Int)) = false := decide_eq_false (by omega)
           have hY0 : Y1 = [] := List.eq_nil_of_length_eq_zero (by omega)
           repeat (first | refine xR (ja2 @dA1 @dA2) ?_ | exact xU (ja2 @dA1 @dA2))
           refine SWp.skip (le_mk rfl ?_ ?_ ?_)
           · show 1 ≤ g1
             omega
           iterate 2 (case _ => (first | exact vU (ja2 @hWl @hY0) | refine vR (ja2 @hWl @hY0) ?_))
       · have dA1 : decide ((s : Int) < (m : Int)) = false := decide_eq_false (by omega)
         have hX0 : X2 = [] := List.eq_nil_of_length_eq_zero (by omega)
         repeat (first | refine xR @dA1 ?_ | exact xU @dA1)
         refine SWp.skip (le_mk rfl ?_ ?_ ?_)
         · show 1 ≤ g1
           omega
         iterate 2 (case _ => (first | exact vU (ja2 @hWl @hX0) | refine vR (ja2 @hWl @hX0) ?_))
     obtain ⟨g2, hg2⟩ : ∃ g2, g2 = g1 + KM (X1.length + Y1.length) := ⟨_, rfl⟩
     refine SWp.to (F := mk 220 g2 [(0, .own 1000 0 (some 2) 0 N), (1, int a), (2, int m), (3, int b), (4, cmpF), (18, int mid), (20, int s), (24, int e)] [(1000, 0, .row false (bC (Pf ++ (sortB (X1 ++ Y1) ++ (X2 ++ (Y2 ++ Tl))))))]) ?_ ?_
     · by_cases ca : a < s
       · have dB1 : decide ((a : Int) < (s : Int)) = true := decide_eq_true (by omega)
         by_cases cb : s < mid
         · have dB2 : decide ((s : Int) < (mid : Int)) = true := decide_eq_true (by omega)
           have hrec := ih (X1.length + Y1.length) (by omega) Pf X1 Y1 (X2 ++ (Y2 ++ Tl)) N a s mid rfl (by rw [hN, hWl]; simp; omega) hl ha (by omega) (by omega) (by omega) (by omega) sX1 sY1
           repeat (first | refine xR (ja2 @dB1 @dB2) ?_ | exact xU (ja2 @dB1 @dB2))
           refine goC_h [(1000, 0)] 2000 hrec (by simp) (by simp) ?_ ?_ ?_
           iterate 2 (case _ => (first | exact vU (ja2 @renL_bC @cmpF.eq_1) | refine vR (ja2 @renL_bC @cmpF.eq_1) ?_))
           repeat (first | refine xR @renL_bC ?_ | exact xU @renL_bC)
           refine le_mk rfl ?_ ?_ ?_
           · show g1 + KM (X1.length + Y1.length) ≤ g2
             omega
           iterate 2 (case _ => (first | exact vT | refine vS ?_))
         · have dB2 : decide ((s : Int) < (mid : Int)) = false := decide_eq_false (by omega)
           have hY0 : Y1 = [] := List.eq_nil_of_length_eq_zero (by omega)
           have hsx := sortB_id sX1
           repeat (first | refine xR (ja2 @dB1 @dB2) ?_ | exact xU (ja2 @dB1 @dB2))
           refine SWp.skip (le_mk rfl ?_ ?_ ?_)
           · show g1 ≤ g2
             omega
           iterate 2 (case _ => (first | exact vU (ja3 @hY0 @hsx @List.append_nil.{0}) | refine vR (ja3 @hY0 @hsx @List.append_nil.{0}) ?_))
       · have dB1 : decide ((a : Int) < (s : Int)) = false := decide_eq_false (by omega)
         have hX0 : X1 = [] := List.eq_nil_of_length_eq_zero (by omega)
         have hsy := sortB_id sY1
         repeat (first | refine xR @dB1 ?_ | exact xU @dB1)
         refine SWp.skip (le_mk rfl ?_ ?_ ?_)
         · show g1 ≤ g2
           omega
         iterate 2 (case _ => (first | exact vU (ja3 @hX0 @hsy @List.nil_append.{0}) | refine vR (ja3 @hX0 @hsy @List.nil_append.{0}) ?_))
     have hfin : Pf ++ (sortB (X1 ++ Y1) ++ (sortB (X2 ++ Y2) ++ Tl)) = Pf ++ (sortB (X ++ Y) ++ Tl) := by rw [hcut]; simp
     by_cases ca : mid < e
     · have dC1 : decide ((mid : Int) < (e : Int)) = true := decide_eq_true (by omega)
       by_cases cb : e < b
       · have dC2 : decide ((e : Int) < (b : Int)) = true := decide_eq_true (by omega)
         have hrec := ih (X2.length + Y2.length) (by omega) (Pf ++ sortB (X1 ++ Y1)) X2 Y2 Tl N mid e b rfl (by rw [hN, hWl]; simp [length_sortB]; omega) hl (by simp [length_sortB]; omega) (by simp [length_sortB]; omega) (by omega) (by omega) (by omega) sX2 sY2
         simp only [List.append_assoc] at hrec
         rw [hfin] at hrec
         repeat (first | refine xR (ja2 @dC1 @dC2) ?_ | exact xU (ja2 @dC1 @dC2))
         refine goC_h [(1000, 0)] 2000 hrec (by simp) (by simp) ?_ ?_ ?_
         iterate 2 (case _ => (first | exact vU (ja2 @renL_bC @cmpF.eq_1) | refine vR (ja2 @renL_bC @cmpF.eq_1) ?_))
         repeat (first | refine xR (ja2 @renL_bC @outOf_nil) ?_ | exact xU (ja2 @renL_bC @outOf_nil))
         omega
       · have dC2 : decide ((e : Int) < (b : Int)) = false := decide_eq_false (by omega)
         have hY0 : Y2 = [] := List.eq_nil_of_length_eq_zero (by omega)
         have hsx := sortB_id sX2
         have hg : g2 ≤ KM n := by omega
         rw [hY0, List.append_nil, hsx] at hfin
         repeat (first | refine xR (ja7 @dC1 @dC2 @outOf_nil @hY0 @List.nil_append.{0} @hfin @hg) ?_ | exact xU (ja7 @dC1 @dC2 @outOf_nil @hY0 @List.nil_append.{0} @hfin @hg))
     · have dC1 : decide ((mid : Int) < (e : Int)) = false := decide_eq_false (by omega)
       have hX0 : X2 = [] := List.eq_nil_of_length_eq_zero (by omega)
       have hsy := sortB_id sY2
       have hg : g2 ≤ KM n := by omega
       rw [hX0, List.nil_append, hsy] at hfin
       repeat (first | refine xR (ja6 @dC1 @outOf_nil @hX0 @List.nil_append.{0} @hfin @hg) ?_ | exact xU (ja6 @dC1 @outOf_nil @hX0 @List.nil_append.{0} @hfin @hg))
end Go.Proofs.YtbcncdpaigljeaaGreatDoor.Aw
namespace Go.Proofs.YtbcncdpaigljeaaGreatDoor.Aw
open Go
set_option linter.unusedSimpArgs false
set_option linter.unusedVariables false
inductive BkT (w : Nat) : List Bt → Prop
 | last (S : List Bt) : S.length ≤ w → Srt S → BkT w S
 | cons (S T : List Bt) : S.length = w → Srt S → BkT w T → BkT w (S ++ T)
inductive BkP (w : Nat) : List Bt → Prop
 | nil : BkP w []
 | snoc (P S : List Bt) : BkP w P → S.length = w → Srt S → BkP w (P ++ S)
theorem bk_join {w : Nat} {P : List Bt} (h : BkP w P) : ∀ {T : List Bt}, BkT w T → BkT w (P ++ T) := by
 induction h with
 | nil => intro T hT; exact hT
 | snoc P S hP hS hs ih => intro T hT; rw [List.append_assoc]; exact ih (.cons S T hS hs hT)
theorem bk_one {w : Nat} {T : List Bt} (h : BkT w T) (hl : T.length ≤ w) : Srt T := by
 cases h with
 | last _ h1 h2 => exact h2
 | cons S T h1 h2 h3 =>
   have : T = [] := List.length_eq_zero_iff.1 (by rw [List.length_append] at hl; omega)
   subst this
   rw [List.append_nil]; exact h2
theorem bk_two {w : Nat} (hw : 1 ≤ w) {T : List Bt} (h : BkT w T) (hl : 2 * w ≤ T.length) : ∃ X Y T', T = X ++ (Y ++ T') ∧ X.length = w ∧ Y.length = w ∧ Srt X ∧ Srt Y ∧ BkT w T' := by
 cases h with
 | last _ h1 h2 => omega
 | cons S T h1 h2 h3 =>
   rw [List.length_append] at hl
   cases h3 with
   | last _ h4 h5 => exact ⟨S, T, [], by simp, h1, by omega, h2, h5, .last [] (by simp) List.Pairwise.nil⟩
   | cons S' T' h4 h5 h6 => exact ⟨S, S', T', rfl, h1, h4, h2, h5, h6⟩
theorem bk_more {w : Nat} {T : List Bt} (h : BkT w T) (hl : w < T.length) (hl2 : T.length < 2 * w) : ∃ X Y, T = X ++ Y ∧ X.length = w ∧ 1 ≤ Y.length ∧ Srt X ∧ Srt Y := by
 cases h with
 | last _ h1 h2 => omega
 | cons S T h1 h2 h3 =>
   rw [List.length_append] at hl hl2
   exact ⟨S, T, rfl, h1, by omega, h2, bk_one h3 (by omega)⟩
theorem sortB_part {P S T : List Bt} : sortB (P ++ (sortB S ++ T)) = sortB (P ++ (S ++ T)) := by
 refine sortB_eq (sortB_srt _) fun c => ?_
 rw [filter_sortB]
 simp only [List.filter_append, filter_sortB]
end Go.Proofs.YtbcncdpaigljeaaGreatDoor.Aw
namespace Go.Proofs.YtbcncdpaigljeaaGreatDoor.Aw
open Go
set_option linter.unusedSimpArgs false
set_option linter.unusedVariables false
def KS (N : Nat) : Nat := N + 5 + KM N * (2 * N + 20)
theorem KM_le {n N : Nat} (h : n ≤ N) : KM n ≤ 10 * N * n := by
 unfold KM
 exact Nat.mul_le_mul_right n (by omega)
set_option maxHeartbeats 1000000 in
set_option maxRecDepth 100000 in
theorem slices_stable_h [Tabs Tryz.prog] (l : List Bt) (N : Nat) (hN : N = l.length) (hl : N ≤ 10000) :
   HCon Tryz.prog n_slices_stableCmpFunchuff_batch [.own 1000 0 (some 2) 0 N, int N, cmpF] [.row false (bC l)] (.tup []) [(1000, 0, .row false (bC (sortB l)))] (KS N) := by
 refine HCon.of' mix Tryz.func157 rfl Tryz.ntmps157 e_slices_stableCmpFunchuff_batch r_slices_stableCmpFunchuff_batch (by simp) (by simp only [AV.gl.glL, AV.gl, int, cmpF, and_true]; omega) bC_gl ?_
 unfold s_slices_stableCmpFunchuff_batch
 repeat (first | refine zS ?_ | exact zT)
 refine SWp.loop (α := List Bt × List Bt) (fun x => mk 63 (1 + x.1.length) [(0, .own 1000 0 (some 2) 0 N), (1, int N), (2, cmpF), (6, int 20), (7, int (x.1.length : Nat)), (8, int (x.1.length + 20 : Nat))] [(1000, 0, .row false (bC (x.1 ++ x.2)))])
   (fun x => BkP 20 x.1 ∧ sortB (x.1 ++ x.2) = sortB l ∧ x.1.length + x.2.length = N) (fun x => x.2.length) ([], l) ⟨.nil, rfl, by simp [hN]⟩ (le_mk rfl ?_ ?_ ?_) ?_
 · exact Nat.le_refl _
 iterate 2 (case _ => (first | exact yT | refine yS ?_))
 rintro ⟨P, T⟩ ⟨hP, hS, hlen⟩ -
 simp only at hP hS hlen
 obtain ⟨a, ha⟩ : ∃ a, a = P.length := ⟨_, rfl⟩
 obtain ⟨b, hb⟩ : ∃ b, b = a + 20 := ⟨_, rfl⟩
 rw [← ha, ← hb]
 by_cases c : b ≤ N
 · have d : decide ((b : Int) ≤ (N : Int)) = true := decide_eq_true (by omega)
   obtain ⟨X, T', rfl, hX⟩ : ∃ X T', T = X ++ T' ∧ X.length = 20 := ⟨T.take 20, T.drop 20, (List.take_append_drop 20 T).symm, by rw [List.length_take]; omega⟩
   rw [List.length_append] at hlen
   have hc := slices_insertionSort_h P X T' N a b (by simp only [List.length_append]; omega) (by omega) ha (by omega)
   obtain ⟨b2, hb2⟩ : ∃ b2, b2 = b + 20 := ⟨_, rfl⟩
   have eb : (b : Int) + 20 = (b2 : Int) := by omega
   have hPl : (P ++ sortB X).length = b := by rw [List.length_append, length_sortB]; omega
   repeat (first | refine zR @d ?_ | exact zU @d)
   refine goC_h [(1000, 0)] 2000 hc (by simp) (by simp) ?_ ?_ ?_
   iterate 2 (case _ => (first | exact yU (ja2 @renL_bC @cmpF.eq_1) | refine yR (ja2 @renL_bC @cmpF.eq_1) ?_))
   repeat (first | refine zR (ja2 @renL_bC @eb) ?_ | exact zU (ja2 @renL_bC @eb))
   refine At.of (P ++ sortB X, T') ⟨.snoc P _ hP (by rw [length_sortB]; exact hX) (sortB_srt _), ?_, ?_⟩ ?_ rfl rfl ?_ ?_ ?_
   · simp only
     rw [List.append_assoc, sortB_part, hS]
   · simp only
     rw [hPl]; omega
   · simp only [List.length_append]; omega
   · simp only
     rw [hPl]; omega
   · have e2 : (((P ++ sortB X).length + 20 : Nat) : Int) = (b2 : Int) := by rw [hPl]; omega
     simp only [e2, hPl]
     (first | exact yT | refine yS ?_)
     omega
   · (first | exact yT | refine yS ?_)
 · have d : decide ((b : Int) ≤ (N : Int)) = false := decide_eq_false (by omega)
   have hc := slices_insertionSort_h P T [] N a N (by simp only [List.length_append, List.length_nil]; omega) (by omega) ha (by omega)
   rw [List.append_nil, List.append_nil] at hc
   repeat (first | refine zR @d ?_ | exact zU @d)
   refine goC_h [(1000, 0)] 2000 hc (by simp) (by simp) ?_ ?_ ?_
   iterate 2 (case _ => (first | exact yU (ja2 @renL_bC @cmpF.eq_1) | refine yR (ja2 @renL_bC @cmpF.eq_1) ?_))
   repeat (first | refine zR @renL_bC ?_ | exact zU @renL_bC)
   refine SWp.loop (α := List Bt × Nat) (fun x => mk 63 (N + 3 + KM N * x.2) [(0, .own 1000 0 (some 2) 0 N), (1, int N), (2, cmpF), (6, int (x.2 : Nat))] [(1000, 0, .row false (bC x.1))])
     (fun x => BkT x.2 x.1 ∧ sortB x.1 = sortB l ∧ x.1.length = N ∧ 1 ≤ x.2 ∧ x.2 ≤ 2 * N + 20) (fun x => N - x.2) (P ++ sortB T, 20) ⟨bk_join hP (.last _ (by rw [length_sortB]; omega) (sortB_srt _)), ?_, ?_, by simp, by simp⟩ (le_mk rfl ?_ ?_ ?_) ?_
   · have := sortB_part (P := P) (S := T) (T := [])
     rw [List.append_nil, List.append_nil] at this
     simp only
     rw [this, hS]
   · simp only [List.length_append, length_sortB]; omega
   · show 1 + a + 1 ≤ N + 3 + KM N * 20
     omega
   iterate 2 (case _ => (first | exact yU @renL_bC | refine yR @renL_bC ?_))
   clear hc hS hP hlen d c
   rintro ⟨R, w⟩ ⟨hB, hSo, hRl, hw1, hw2⟩ -
   simp only at hB hSo hRl hw1 hw2
   by_cases cw : w < N
   · have d : decide ((w : Int) < (N : Int)) = true := decide_eq_true (by omega)
     obtain ⟨w2, hw2e⟩ : ∃ w2, w2 = 2 * w := ⟨_, rfl⟩
     have ew : 2 * (w : Int) = (w2 : Int) := by omega
     have ew' : (w : Int) * 2 = (w2 : Int) := by omega
     have fN : KM N * w2 = KM N * w + KM N * w := by rw [hw2e, ← Nat.mul_assoc, Nat.mul_comm (KM N) 2, Nat.mul_assoc]; omega
     have fw : KM N ≤ KM N * w := Nat.le_mul_of_pos_right _ (by omega)
     repeat (first | refine zR (ja2 @d @ew) ?_ | exact zU (ja2 @d @ew))
     refine SWp.loop (α := List Bt × List Bt) (fun x => mk 63 (N + 3 + KM N * w + 10 * N * x.1.length) [(0, .own 1000 0 (some 2) 0 N), (1, int N), (2, cmpF), (6, int w), (7, int (x.1.length : Nat)), (8, int (x.1.length + w2 : Nat))] [(1000, 0, .row false (bC (x.1 ++ x.2)))])
       (fun x => BkP w2 x.1 ∧ BkT w x.2 ∧ sortB (x.1 ++ x.2) = sortB l ∧ x.1.length + x.2.length = N) (fun x => x.2.length) ([], R) ⟨.nil, hB, hSo, by simp [hRl]⟩ (le_mk rfl ?_ ?_ ?_) ?_
     · exact Nat.le_refl _
     iterate 2 (case _ => (first | exact yT | refine yS ?_))
     rintro ⟨P2, T2⟩ ⟨hP2, hT2, hS2, hl2⟩ -
     simp only at hP2 hT2 hS2 hl2
     obtain ⟨a2, ha2⟩ : ∃ a2, a2 = P2.length := ⟨_, rfl⟩
     obtain ⟨b2, hb2⟩ : ∃ b2, b2 = a2 + w2 := ⟨_, rfl⟩
     obtain ⟨mid, hmid⟩ : ∃ mid, mid = a2 + w := ⟨_, rfl⟩
     have em : (a2 : Int) + (w : Int) = (mid : Int) := by omega
     rw [← ha2, ← hb2]
     by_cases cb : b2 ≤ N
     · have d2 : decide ((b2 : Int) ≤ (N : Int)) = true := decide_eq_true (by omega)
       obtain ⟨X, Y, T', rfl, hX, hY, hXs, hYs, hT'⟩ := bk_two hw1 hT2 (by omega)
       simp only [List.length_append] at hl2
       have hc := slices_symMerge_h w2 P2 X Y T' N a2 mid b2 (by omega) (by simp only [List.length_append]; omega) (by omega) ha2 (by omega) (by omega) (by omega) (by omega) hXs hYs
       obtain ⟨b3, hb3⟩ : ∃ b3, b3 = b2 + w2 := ⟨_, rfl⟩
       have eb : (b2 : Int) + (w2 : Int) = (b3 : Int) := by omega
       have hPl : (P2 ++ sortB (X ++ Y)).length = b2 := by simp only [List.length_append, length_sortB]; omega
       have f1 : 10 * N * b2 = 10 * N * a2 + 10 * N * w2 := by rw [hb2, Nat.mul_add]
       have f2 : KM w2 ≤ 10 * N * w2 := KM_le (by omega)
       repeat (first | refine zR (ja2 @d2 @em) ?_ | exact zU (ja2 @d2 @em))
       refine goC_h [(1000, 0)] 2000 hc (by simp) (by simp) ?_ ?_ ?_
       iterate 2 (case _ => (first | exact yU (ja2 @renL_bC @cmpF.eq_1) | refine yR (ja2 @renL_bC @cmpF.eq_1) ?_))
       repeat (first | refine zR (ja3 @renL_bC @ew @eb) ?_ | exact zU (ja3 @renL_bC @ew @eb))
       refine At.of (P2 ++ sortB (X ++ Y), T') ⟨.snoc P2 _ hP2 (by rw [length_sortB, List.length_append]; omega) (sortB_srt _), hT', ?_, ?_⟩ ?_ rfl rfl ?_ ?_ ?_
       · simp only
         rw [List.append_assoc, sortB_part, ← hS2, List.append_assoc]
       · simp only
         rw [hPl]; omega
       · simp only [List.length_append]; omega
       · simp only
         rw [hPl]; omega
       · have e2 : (((P2 ++ sortB (X ++ Y)).length + w2 : Nat) : Int) = (b3 : Int) := by rw [hPl]; omega
         simp only [e2, hPl]
         (first | exact yT | refine yS ?_)
         omega
       · (first | exact yT | refine yS ?_)
     · have d2 : decide ((b2 : Int) ≤ (N : Int)) = false := decide_eq_false (by omega)
       have hKN : KM N = 10 * N * a2 + 10 * N * (N - a2) := by
         rw [← Nat.mul_add, show a2 + (N - a2) = N by omega]; rfl
       by_cases cm : mid < N
       · have d3 : decide ((mid : Int) < (N : Int)) = true := decide_eq_true (by omega)
         obtain ⟨X, Y, rfl, hX, hY, hXs, hYs⟩ := bk_more hT2 (by omega) (by omega)
         simp only [List.length_append] at hl2
         have hc := slices_symMerge_h (N - a2) P2 X Y [] N a2 mid N (by omega) (by simp only [List.length_append, List.length_nil]; omega) (by omega) ha2 (by omega) (by omega) (by omega) hY hXs hYs
         rw [List.append_nil, List.append_nil] at hc
         have f2 : KM (N - a2) ≤ 10 * N * (N - a2) := KM_le (by omega)
         repeat (first | refine zR (ja3 @d2 @em @d3) ?_ | exact zU (ja3 @d2 @em @d3))
         refine goC_h [(1000, 0)] 2000 hc (by simp) (by simp) ?_ ?_ ?_
         iterate 2 (case _ => (first | exact yU (ja2 @renL_bC @cmpF.eq_1) | refine yR (ja2 @renL_bC @cmpF.eq_1) ?_))
         repeat (first | refine zR (ja2 @renL_bC @ew') ?_ | exact zU (ja2 @renL_bC @ew'))
         refine At.of (P2 ++ sortB (X ++ Y), w2) ⟨bk_join hP2 (.last _ (by rw [length_sortB, List.length_append]; omega) (sortB_srt _)), ?_, ?_, by simp only; omega, by simp only; omega⟩ (by simp only; omega) rfl rfl ?_ ?_ ?_
         · have := sortB_part (P := P2) (S := X ++ Y) (T := [])
           rw [List.append_nil, List.append_nil] at this
           simp only
           rw [this, hS2]
         · simp only [List.length_append, length_sortB]; omega
         · simp only; omega
         iterate 2 (case _ => (first | exact yT | refine yS ?_))
       · have d3 : decide ((mid : Int) < (N : Int)) = false := decide_eq_false (by omega)
         repeat (first | refine zR (ja4 @d2 @em @d3 @ew') ?_ | exact zU (ja4 @d2 @em @d3 @ew'))
         refine At.of (P2 ++ T2, w2) ⟨bk_join hP2 (.last _ (by omega) (bk_one hT2 (by omega))), hS2, ?_, by simp only; omega, by simp only; omega⟩ (by simp only; omega) rfl rfl ?_ ?_ ?_
         · simp only [List.length_append]; omega
         · simp only; omega
         iterate 2 (case _ => (first | exact yT | refine yS ?_))
   · have d : decide ((w : Int) < (N : Int)) = false := decide_eq_false (by omega)
     have hR : sortB l = R := by rw [← hSo]; exact sortB_id (bk_one hB (by omega))
     have f : KM N * w ≤ KM N * (2 * N + 20) := Nat.mul_le_mul_left _ hw2
     rw [hR]
     repeat (first | refine zR (ja2 @d @outOf_nil) ?_ | exact zU (ja2 @d @outOf_nil))
     all_goals (simp only [KS]; omega)
end Go.Proofs.YtbcncdpaigljeaaGreatDoor.Aw
namespace Go.Proofs.YtbcncdpaigljeaaGreatDoor.Aw
open Go
set_option linter.unusedSimpArgs false
set_option linter.unusedVariables false
def prs : List Bt → List Bt
 | p :: q :: r => (p.1 + q.1, p.2 ++ q.2) :: prs r
 | _ => []
def prK (l : List Bt) (k : Nat) : List Bt := (List.range k).map fun j => ((l.getD (2 * j) (0, [])).1 + (l.getD (2 * j + 1) (0, [])).1, (l.getD (2 * j) (0, [])).2 ++ (l.getD (2 * j + 1) (0, [])).2)
theorem prK_succ {l : List Bt} {k : Nat} : prK l (k + 1) = prK l k ++ [((l.getD (2 * k) (0, [])).1 + (l.getD (2 * k + 1) (0, [])).1, (l.getD (2 * k) (0, [])).2 ++ (l.getD (2 * k + 1) (0, [])).2)] := by
 simp [prK, List.range_succ]
theorem length_prK {l : List Bt} {k : Nat} : (prK l k).length = k := by simp [prK]
theorem getD_bA {l : List Bt} {i : Nat} (h : i < l.length) : (l.map bA).getD i .junk = .agg [nA (l.getD i (0, [])).1, .sl false none ((l.getD i (0, [])).2.map nA)] := by
 simp [List.getD, List.getElem?_eq_getElem h, bA]
theorem chunks_bC : ∀ {l : List Bt}, chunks (some 2) l.length (bC l) = l.map bA
 | [] => rfl
 | p :: l => by
   simp only [List.length_cons, bC_cons, chunks, esz] at *
   have := chunks_bC (l := l)
   simp [this, bA, chunks]
set_option maxRecDepth 100000 in
theorem huff_pairs_c [Tabs Tryz.prog] (nl : Bool) (l : List Bt) (hl : l.length ≤ 10000) (hs : ∀ p ∈ l, p.1 ≤ 1000000000000000 ∧ 0 < p.2.length ∧ p.2.length ≤ 50000) :
   Con Tryz.prog n_huff_pairs [.sl nl (some 2) (l.map bA)] (.sl (nl0 (l.length / 2)) (some 2) ((prK l (l.length / 2)).map bA)) := by
 refine Con.of' mix Tryz.func156 rfl Tryz.ntmps156 e_huff_pairs r_huff_pairs (by simp) (by simp only [AV.free, AV.free.freeL, free_bA, Bool.and_self]) (by simp only [AV.free, free_bA]) ?_
 unfold s_huff_pairs
 iterate 4 (first | refine zS ?_ | exact zT)
 refine SWp.adopt 3 (some 2) (by (first | exact yT | refine yS ?_)) ?_
 repeat (first | refine zS ?_ | exact zT)
 refine SWp.loop (α := Nat) (fun k => mk 38 (3 * k + 1) [(0, .sl nl (some 2) (l.map bA)), (3, .own 3 (3 * k) (some 2) 0 k), (4, int (2 * k + 1 : Nat))] [(3, 3 * k, .row (nl0 k) (bC (prK l k)))])
   (fun k => 2 * k ≤ l.length) (fun k => l.length - 2 * k) 0 (by omega) (le_mk rfl ?_ ?_ ?_) ?_
 · exact Nat.le_refl _
 · (first | exact yT | refine yS ?_)
 · simp (disch := omega) only [wP, wZ, so, sm, sg, sn, undef, seval, if_pos, if_neg, aStore, frz, AV.flat, ↓reduceIte, ne_eq, reduceCtorEq, ByteArray.size, show bC (prK l 0) = [] from rfl, nl0_zero]
 rintro k hk -
 obtain ⟨q, hq⟩ : ∃ q, q = 2 * k + 1 := ⟨_, rfl⟩
 rw [← hq]
 repeat (first | refine zR @List.length_map.{0, 0} ?_ | exact zU @List.length_map.{0, 0})
 refine SWp.cond rfl (fun h => ?_) (fun h => ?_)
 · simp only [decide_eq_true_eq] at h
   have hql : q < l.length := by omega
   have hpl : 2 * k < l.length := by omega
   obtain ⟨p, hp⟩ : ∃ p, p = 2 * k := ⟨_, rfl⟩
   obtain ⟨x, hx⟩ : ∃ x, x = l.getD p (0, []) := ⟨_, rfl⟩
   obtain ⟨y, hy⟩ : ∃ y, y = l.getD q (0, []) := ⟨_, rfl⟩
   have hxm : x ∈ l := by
     rw [hx, hp]; simp only [List.getD, List.getElem?_eq_getElem hpl, Option.getD_some]; exact List.getElem_mem _
   have hym : y ∈ l := by
     rw [hy]; simp only [List.getD, List.getElem?_eq_getElem hql, Option.getD_some]; exact List.getElem_mem _
   obtain ⟨x1, x2, x3⟩ := hs x hxm
   obtain ⟨y1, y2, y3⟩ := hs y hym
   have e1 : (l.map bA).getD p .junk = .agg [.sc (.int .i64 (x.1 : Int)), .sl false none (x.2.map nA)] := by rw [hx]; exact getD_bA (by omega)
   have e2 : (l.map bA).getD q .junk = .agg [.sc (.int .i64 (y.1 : Int)), .sl false none (y.2.map nA)] := by rw [hy]; exact getD_bA hql
   have eqp : (q : Int) - 1 = (p : Int) := by omega
   obtain ⟨z, hz⟩ : ∃ z, z = x.1 + y.1 := ⟨_, rfl⟩
   have esum : (x.1 : Int) + (y.1 : Int) = (z : Int) := by omega
   have hpr : prK l (k + 1) = prK l k ++ [(z, x.2 ++ y.2)] := by rw [prK_succ, ← hp, show p + 1 = q from by omega, ← hx, ← hy, ← hz]
   have hcells : bC (prK l k) ++ [.sc (.int .i64 (z : Int)), .sl false none ((x.2 ++ y.2).map nA)] = bC (prK l (k + 1)) := by
     rw [hpr, ← bC_append]; rfl
   have hcat := slices_ConcatI false false (x.2.map nA) (y.2.map nA) free_nA free_nA (by rw [List.length_map]; omega) (by rw [List.length_map]; omega) (by simp only [List.length_map]; omega)
   rw [← List.map_append] at hcat
   obtain ⟨xy, hxy⟩ : ∃ xy, xy = x.2 ++ y.2 := ⟨_, rfl⟩
   rw [← hxy] at hcat hcells hpr
   repeat (first | refine zR (ja5 @eqp @e1 @e2 iR @esum) ?_ | exact zU (ja5 @eqp @e1 @e2 iR @esum))
   refine goC_p _ (.inl ⟨by simp only [AV.free, AV.free.freeL, free_nA, Bool.and_self], hcat⟩) ?_
   repeat (first | refine zR (ja4 @length_bC @length_prK @hcells @Bool.and_false) ?_ | exact zU (ja4 @length_bC @length_prK @hcells @Bool.and_false))
   refine ⟨⟨⟨_, rfl, rfl⟩, free_nA⟩, ⟨fun w hw => ⟨_, List.mem_singleton.1 hw⟩, by omega, by omega⟩, ?_⟩
   have hfl : List.flatMap (fun x => (cellsA x).getD []) [AV.agg [AV.sc (Value.int IntKind.i64 (z : Int)), AV.sl false none (List.map nA xy)]] = [.sc (.int .i64 (z : Int)), .sl false none (xy.map nA)] := rfl
   repeat (first | refine zR (ja2 @hfl @hcells) ?_ | exact zU (ja2 @hfl @hcells))
   refine At.of (k + 1) (by omega) (by omega) rfl rfl (show 3 * k + 1 + 1 + 1 + 1 ≤ 3 * (k + 1) + 1 by omega) ?_ ?_
   · simp (disch := omega) only [wP, wZ, so, sm, sg, sn, undef, seval, if_pos, if_neg, aStore, frz, AV.flat, ↓reduceIte, ne_eq, reduceCtorEq, ByteArray.size, show 3 * k + 1 + 1 + 1 = 3 * (k + 1) from by omega]
     try omega
   · simp (disch := omega) only [wP, wZ, so, sm, sg, sn, undef, seval, if_pos, if_neg, aStore, frz, AV.flat, ↓reduceIte, ne_eq, reduceCtorEq, ByteArray.size, show 3 * k + 1 + 1 + 1 = 3 * (k + 1) from by omega, nl0_succ]
 · simp only [decide_eq_false_iff_not] at h
   obtain rfl : k = l.length / 2 := by omega
   repeat (first | refine zS ?_ | exact zT)
   rw [if_pos (by rw [length_bC, length_prK]; omega)]
   have := chunks_bC (l := prK l (l.length / 2))
   rw [length_prK] at this
   rw [this]
end Go.Proofs.YtbcncdpaigljeaaGreatDoor.Aw
