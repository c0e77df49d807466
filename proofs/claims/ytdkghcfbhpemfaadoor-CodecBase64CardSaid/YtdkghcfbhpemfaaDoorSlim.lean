/-
  THE SLIM CODE of functions of the program, printed by a program of mine and held by the kernel.
-/
import Derived.Test.YtdkghcfbhpemfaaDoorAwV
import Derived.Test.YtdkghcfbhpemfaaDoorProg
namespace Go.Proofs.YtdkghcfbhpemfaaDoor.Aw
open Go
set_option maxRecDepth 100000
set_option linter.unusedSimpArgs false
abbrev n_codec_Base64 : Nat := 16
abbrev n_codec_Be : Nat := 26
abbrev n_codec_Dec : Nat := 20
abbrev n_codec_GetBe : Nat := 30
abbrev n_codec_GetLe : Nat := 32
abbrev n_codec_Hex : Nat := 12
abbrev n_codec_Hex8 : Nat := 22
abbrev n_codec_Le : Nat := 27
abbrev n_codec_Unbase64 : Nat := 14
abbrev n_codec_Undec : Nat := 18
abbrev n_codec_Unhex : Nat := 10
abbrev n_codec_Unhex8 : Nat := 24
abbrev n_codec_Unoctal : Nat := 34
abbrev n_codec_fourSigns : Nat := 38
abbrev n_codec_leadingDigits : Nat := 40
abbrev n_codec_number : Nat := 41
abbrev n_codec_smallLetter : Nat := 44
abbrev n_codec_stands : Nat := 46
abbrev n_codec_threeBytes : Nat := 37
abbrev n_drayagelaw01_CodecBase64 : Nat := 4
abbrev n_drayagelaw01_CodecBytes : Nat := 7
abbrev n_drayagelaw01_CodecDec : Nat := 5
abbrev n_drayagelaw01_CodecHex : Nat := 3
abbrev n_drayagelaw01_CodecHex8 : Nat := 6
abbrev n_drayagelaw01_CodecKeeps : Nat := 8
abbrev n_drayagelaw01_awake : Nat := 9
abbrev n_drayageref01_Base64 : Nat := 17
abbrev n_drayageref01_Be : Nat := 28
abbrev n_drayageref01_Bit : Nat := 39
abbrev n_drayageref01_Dec : Nat := 21
abbrev n_drayageref01_Find : Nat := 36
abbrev n_drayageref01_GetBe : Nat := 31
abbrev n_drayageref01_GetLe : Nat := 33
abbrev n_drayageref01_Hex : Nat := 13
abbrev n_drayageref01_Hex8 : Nat := 23
abbrev n_drayageref01_Turned : Nat := 29
abbrev n_drayageref01_Unbase64 : Nat := 15
abbrev n_drayageref01_Undec : Nat := 19
abbrev n_drayageref01_Unhex : Nat := 11
abbrev n_drayageref01_Unhex8 : Nat := 25
abbrev n_drayageref01_number : Nat := 42
abbrev n_slices_Reversebytebyte : Nat := 45
abbrev n_strconv_Itoa : Nat := 43
abbrev n_strings_IndexByte : Nat := 35
abbrev n_strings_Trim : Nat := 48
abbrev n_strings_TrimLeft : Nat := 47
abbrev n_strings_TrimRight : Nat := 50
abbrev n_strings_asciiSet_contains : Nat := 61
abbrev n_strings_makeASCIISet : Nat := 53
abbrev n_strings_trimLeftASCII : Nat := 54
abbrev n_strings_trimLeftByte : Nat := 52
abbrev n_strings_trimLeftUnicode : Nat := 55
abbrev n_strings_trimRightASCII : Nat := 57
abbrev n_strings_trimRightByte : Nat := 56
abbrev n_strings_trimRightUnicode : Nat := 58
theorem mix : Tryd.prog.follows .mixedOrders = true := by kernel_rfl
/-- The slim code of drayage/codec.Hex. -/
def s_codec_Hex : SCode :=
  (.seq (.reg [⟨(some 2), .mv (.const (.string ⟨#[]⟩)), none⟩])
  (.seq (.reg [⟨(some 6), .mv (T 0), none⟩,
    ⟨(some 7), .len false (T 6), none⟩,
    ⟨(some 8), .bin .mul (C (2)) (T 7), none⟩,
    ⟨(some 9), .mks none 1 [(.int .u8 (0))] (C (0)) (T 8), none⟩,
    ⟨(some 3), .mv (T 9), none⟩])
  (.seq (.seq (.reg [⟨(some 10), .mv (T 0), none⟩,
    ⟨(some 11), .len false (T 10), none⟩,
    ⟨(some 12), .mv (C (0)), none⟩])
  (.block 0
    (.loop
      (.seq (.reg [⟨(some 13), .bin .lss (T 12) (T 11), none⟩])
      (.seq (.cond (T 13)
        .skip
        (.exit 0))
      (.seq (.block 1
        (.seq (.reg [⟨(some 14), .iaddr none (T 10) (T 12), none⟩,
          ⟨(some 15), .load none (T 14), none⟩,
          ⟨(some 5), .mv (T 15), none⟩])
        (.reg [⟨(some 16), .mv (T 3), none⟩,
          ⟨(some 17), .mv (T 5), none⟩,
          ⟨(some 18), .bin .shr (T 17) (.const (.int .u64 (4))), none⟩,
          ⟨(some 19), .idxS (.const (.string ⟨#[48, 49, 50, 51, 52, 53, 54, 55, 56, 57, 97, 98, 99, 100, 101, 102]⟩)) (T 18), none⟩,
          ⟨(some 20), .mv (T 5), none⟩,
          ⟨(some 21), .bin .and (T 20) (.const (.int .u8 (15))), none⟩,
          ⟨(some 22), .idxS (.const (.string ⟨#[48, 49, 50, 51, 52, 53, 54, 55, 56, 57, 97, 98, 99, 100, 101, 102]⟩)) (T 21), none⟩,
          ⟨(some 23), .bslice none [(T 19), (T 22)], none⟩,
          ⟨(some 24), .app none 1 (T 16) (T 23), none⟩,
          ⟨(some 3), .mv (T 24), none⟩])))
      (.reg [⟨(some 25), .bin .add (T 12) (C (1)), none⟩,
        ⟨(some 12), .mv (T 25), none⟩])))))))
  (.seq (.reg [⟨(some 26), .mv (T 3), none⟩,
    ⟨(some 27), .b2s (T 26), none⟩,
    ⟨(some 2), .mv (T 27), none⟩])
  .ret))))
theorem e_codec_Hex : slimC Tryd.prog 28 (Tryd.f12.body.getD .skip) = s_codec_Hex := by kernel_rfl
theorem r_codec_Hex : slimRes Tryd.prog Tryd.f12 = some [.tmp 2] := by kernel_rfl

/-- The slim code of drayage/codec.Unhex. -/
def s_codec_Unhex : SCode :=
  (.seq (.reg [⟨(some 2), .mv (.const (.slice none 0 0)), none⟩,
    ⟨(some 3), .mv (C (0)), none⟩])
  (.seq (.reg [⟨(some 7), .mv (T 0), none⟩,
    ⟨(some 8), .len true (T 7), none⟩,
    ⟨(some 9), .bin .quo (T 8) (C (2)), none⟩,
    ⟨(some 10), .mks none 1 [(.int .u8 (0))] (T 9) (T 9), none⟩,
    ⟨(some 4), .mv (T 10), none⟩])
  (.seq (.seq (.reg [⟨(some 11), .mv (T 0), none⟩,
    ⟨(some 12), .len true (T 11), none⟩,
    ⟨(some 13), .mv (C (0)), none⟩])
  (.block 0
    (.loop
      (.seq (.reg [⟨(some 14), .bin .lss (T 13) (T 12), none⟩])
      (.seq (.cond (T 14)
        .skip
        (.exit 0))
      (.seq (.block 1
        (.seq (.reg [⟨(some 15), .mv (T 13), none⟩,
          ⟨(some 5), .mv (T 15), none⟩])
        (.seq (.reg [⟨(some 16), .mv (T 0), none⟩,
          ⟨(some 17), .mv (T 5), none⟩,
          ⟨(some 18), .idxS (T 16) (T 17), none⟩,
          ⟨(some 19), .call true n_strings_IndexByte [(.const (.string ⟨#[48, 49, 50, 51, 52, 53, 54, 55, 56, 57, 97, 98, 99, 100, 101, 102]⟩)), (T 18)], none⟩,
          ⟨(some 6), .mv (T 19), none⟩])
        (.seq (.seq (.reg [⟨(some 20), .mv (T 6), none⟩,
          ⟨(some 21), .bin .lss (T 20) (C (0)), none⟩])
        (.cond (T 21)
          (.seq (.reg [⟨(some 2), .mv (.const (.slice none 0 0)), none⟩,
            ⟨(some 3), .mv (C (3)), none⟩])
          .ret)
          .skip))
        (.seq (.reg [⟨(some 22), .mv (T 5), none⟩,
          ⟨(some 23), .bin .quo (T 22) (C (2)), none⟩,
          ⟨(some 24), .mv (T 4), none⟩,
          ⟨(some 25), .len false (T 24), none⟩,
          ⟨(some 26), .bin .lss (T 23) (T 25), none⟩])
        (.cond (T 26)
          (.reg [⟨(some 27), .mv (T 4), none⟩,
            ⟨(some 28), .mv (T 5), none⟩,
            ⟨(some 29), .bin .quo (T 28) (C (2)), none⟩,
            ⟨(some 30), .mv (T 4), none⟩,
            ⟨(some 31), .mv (T 5), none⟩,
            ⟨(some 32), .bin .quo (T 31) (C (2)), none⟩,
            ⟨(some 33), .iaddr none (T 30) (T 32), none⟩,
            ⟨(some 34), .load none (T 33), none⟩,
            ⟨(some 35), .bin .shl (T 34) (.const (.int .u64 (4))), none⟩,
            ⟨(some 36), .mv (T 6), none⟩,
            ⟨(some 37), .ci .u8 (T 36), none⟩,
            ⟨(some 38), .bin .or (T 35) (T 37), none⟩,
            ⟨(some 39), .iaddr none (T 27) (T 29), none⟩,
            ⟨none, .store none (T 39) (T 38), none⟩])
          .skip))))))
      (.reg [⟨(some 40), .bin .add (T 13) (C (1)), none⟩,
        ⟨(some 13), .mv (T 40), none⟩])))))))
  (.seq (.seq (.reg [⟨(some 41), .mv (T 0), none⟩,
    ⟨(some 42), .len true (T 41), none⟩,
    ⟨(some 43), .bin .rem (T 42) (C (2)), none⟩,
    ⟨(some 44), .bin .neq (T 43) (C (0)), none⟩])
  (.cond (T 44)
    (.seq (.reg [⟨(some 2), .mv (.const (.slice none 0 0)), none⟩,
      ⟨(some 3), .mv (C (2)), none⟩])
    .ret)
    .skip))
  (.seq (.reg [⟨(some 45), .mv (T 4), none⟩,
    ⟨(some 2), .mv (T 45), none⟩,
    ⟨(some 3), .mv (C (0)), none⟩])
  .ret)))))
theorem e_codec_Unhex : slimC Tryd.prog 46 (Tryd.f10.body.getD .skip) = s_codec_Unhex := by kernel_rfl
theorem r_codec_Unhex : slimRes Tryd.prog Tryd.f10 = some [.tmp 2, .tmp 3] := by kernel_rfl

/-- The slim code of drayage/drayageref01.Unhex. -/
def s_drayageref01_Unhex : SCode :=
  (.seq (.reg [⟨(some 2), .alloc [(.slice none 0 0), (.int .i64 (0)), (.int .i64 (0))], none⟩])
  (.seq (.seq (.reg [⟨(some 3), .mv (C (0)), none⟩])
  (.block 0
    (.loop
      (.seq (.seq (.reg [⟨(some 6), .mv (T 3), none⟩,
        ⟨(some 7), .mv (T 0), none⟩,
        ⟨(some 8), .len true (T 7), none⟩,
        ⟨(some 9), .bin .lss (T 6) (T 8), none⟩])
      (.cond (T 9)
        .skip
        (.exit 0)))
      (.seq (.block 1
        (.seq (.reg [⟨(some 12), .mv (T 0), none⟩,
          ⟨(some 13), .mv (T 3), none⟩,
          ⟨(some 14), .idxS (T 12) (T 13), none⟩,
          ⟨(some 15), .call true n_drayageref01_Find [(.const (.string ⟨#[48, 49, 50, 51, 52, 53, 54, 55, 56, 57, 97, 98, 99, 100, 101, 102]⟩)), (T 14)], none⟩,
          ⟨(some 16), .bin .lss (T 15) (C (0)), none⟩])
        (.cond (T 16)
          (.seq (.reg [⟨(some 17), .build [(.slice none 0 0), (.int .i64 (0)), (.int .i64 (0))] [(2, 1, (C (3)))], none⟩,
            ⟨none, .store (some 3) (T 2) (T 17), none⟩])
          .ret)
          .skip)))
      (.reg [⟨(some 10), .mv (T 3), none⟩,
        ⟨(some 11), .bin .add (T 10) (C (1)), none⟩,
        ⟨(some 3), .mv (T 11), none⟩]))))))
  (.seq (.seq (.reg [⟨(some 18), .mv (T 0), none⟩,
    ⟨(some 19), .len true (T 18), none⟩,
    ⟨(some 20), .bin .rem (T 19) (C (2)), none⟩,
    ⟨(some 21), .bin .eql (T 20) (C (1)), none⟩])
  (.cond (T 21)
    (.seq (.reg [⟨(some 22), .build [(.slice none 0 0), (.int .i64 (0)), (.int .i64 (0))] [(2, 1, (C (2)))], none⟩,
      ⟨none, .store (some 3) (T 2) (T 22), none⟩])
    .ret)
    .skip))
  (.seq (.reg [⟨(some 4), .mv (.const (.slice none 0 0)), none⟩])
  (.seq (.seq (.reg [⟨(some 5), .mv (C (0)), none⟩])
  (.block 2
    (.loop
      (.seq (.seq (.reg [⟨(some 23), .mv (T 5), none⟩,
        ⟨(some 24), .mv (T 0), none⟩,
        ⟨(some 25), .len true (T 24), none⟩,
        ⟨(some 26), .bin .lss (T 23) (T 25), none⟩])
      (.cond (T 26)
        .skip
        (.exit 2)))
      (.seq (.block 3
        (.reg [⟨(some 29), .mv (T 4), none⟩,
          ⟨(some 30), .mv (T 0), none⟩,
          ⟨(some 31), .mv (T 5), none⟩,
          ⟨(some 32), .idxS (T 30) (T 31), none⟩,
          ⟨(some 33), .call true n_drayageref01_Find [(.const (.string ⟨#[48, 49, 50, 51, 52, 53, 54, 55, 56, 57, 97, 98, 99, 100, 101, 102]⟩)), (T 32)], none⟩,
          ⟨(some 34), .bin .mul (C (16)) (T 33), none⟩,
          ⟨(some 35), .mv (T 0), none⟩,
          ⟨(some 36), .mv (T 5), none⟩,
          ⟨(some 37), .bin .add (T 36) (C (1)), none⟩,
          ⟨(some 38), .idxS (T 35) (T 37), none⟩,
          ⟨(some 39), .call true n_drayageref01_Find [(.const (.string ⟨#[48, 49, 50, 51, 52, 53, 54, 55, 56, 57, 97, 98, 99, 100, 101, 102]⟩)), (T 38)], none⟩,
          ⟨(some 40), .bin .add (T 34) (T 39), none⟩,
          ⟨(some 41), .ci .u8 (T 40), none⟩,
          ⟨(some 42), .bslice none [(T 41)], none⟩,
          ⟨(some 43), .app none 1 (T 29) (T 42), none⟩,
          ⟨(some 4), .mv (T 43), none⟩]))
      (.reg [⟨(some 27), .mv (T 5), none⟩,
        ⟨(some 28), .bin .add (T 27) (C (2)), none⟩,
        ⟨(some 5), .mv (T 28), none⟩]))))))
  (.seq (.reg [⟨(some 44), .mv (T 4), none⟩,
    ⟨(some 45), .build [(.slice none 0 0), (.int .i64 (0)), (.int .i64 (0))] [(0, 1, (T 44))], none⟩,
    ⟨none, .store (some 3) (T 2) (T 45), none⟩])
  .ret))))))
theorem e_drayageref01_Unhex : slimC Tryd.prog 46 (Tryd.f11.body.getD .skip) = s_drayageref01_Unhex := by kernel_rfl
theorem r_drayageref01_Unhex : slimRes Tryd.prog Tryd.f11 = some [.cell 2 (some 3)] := by kernel_rfl

/-- The slim code of drayage/drayageref01.Hex. -/
def s_drayageref01_Hex : SCode :=
  (.seq (.reg [⟨(some 2), .mv (.const (.string ⟨#[]⟩)), none⟩])
  (.seq (.reg [⟨(some 3), .mv (.const (.slice none 0 0)), none⟩])
  (.seq (.seq (.reg [⟨(some 4), .mv (C (0)), none⟩])
  (.block 0
    (.loop
      (.seq (.seq (.reg [⟨(some 5), .mv (T 4), none⟩,
        ⟨(some 6), .mv (T 0), none⟩,
        ⟨(some 7), .len false (T 6), none⟩,
        ⟨(some 8), .bin .lss (T 5) (T 7), none⟩])
      (.cond (T 8)
        .skip
        (.exit 0)))
      (.seq (.block 1
        (.reg [⟨(some 11), .mv (T 3), none⟩,
          ⟨(some 12), .mv (T 0), none⟩,
          ⟨(some 13), .mv (T 4), none⟩,
          ⟨(some 14), .iaddr none (T 12) (T 13), none⟩,
          ⟨(some 15), .load none (T 14), none⟩,
          ⟨(some 16), .bin .quo (T 15) (.const (.int .u8 (16))), none⟩,
          ⟨(some 17), .idxS (.const (.string ⟨#[48, 49, 50, 51, 52, 53, 54, 55, 56, 57, 97, 98, 99, 100, 101, 102]⟩)) (T 16), none⟩,
          ⟨(some 18), .mv (T 0), none⟩,
          ⟨(some 19), .mv (T 4), none⟩,
          ⟨(some 20), .iaddr none (T 18) (T 19), none⟩,
          ⟨(some 21), .load none (T 20), none⟩,
          ⟨(some 22), .bin .rem (T 21) (.const (.int .u8 (16))), none⟩,
          ⟨(some 23), .idxS (.const (.string ⟨#[48, 49, 50, 51, 52, 53, 54, 55, 56, 57, 97, 98, 99, 100, 101, 102]⟩)) (T 22), none⟩,
          ⟨(some 24), .bslice none [(T 17), (T 23)], none⟩,
          ⟨(some 25), .app none 1 (T 11) (T 24), none⟩,
          ⟨(some 3), .mv (T 25), none⟩]))
      (.reg [⟨(some 9), .mv (T 4), none⟩,
        ⟨(some 10), .bin .add (T 9) (C (1)), none⟩,
        ⟨(some 4), .mv (T 10), none⟩]))))))
  (.seq (.reg [⟨(some 26), .mv (T 3), none⟩,
    ⟨(some 27), .b2s (T 26), none⟩,
    ⟨(some 2), .mv (T 27), none⟩])
  .ret))))
theorem e_drayageref01_Hex : slimC Tryd.prog 28 (Tryd.f13.body.getD .skip) = s_drayageref01_Hex := by kernel_rfl
theorem r_drayageref01_Hex : slimRes Tryd.prog Tryd.f13 = some [.tmp 2] := by kernel_rfl

/-- The slim code of drayage/drayagelaw01.CodecHex. -/
def s_drayagelaw01_CodecHex : SCode :=
  (.seq (.reg [⟨(some 4), .mv (.const (.bool false)), none⟩])
  (.seq (.seq (.reg [⟨(some 10), .call true n_drayagelaw01_awake [], none⟩,
    ⟨(some 11), .un .not (T 10), none⟩])
  (.cond (T 11)
    (.seq (.reg [⟨(some 4), .mv (.const (.bool false)), none⟩])
    .ret)
    .skip))
  (.seq (.seq (.reg [⟨(some 12), .mv (T 0), none⟩,
    ⟨(some 13), .len false (T 12), none⟩,
    ⟨(some 14), .bin .gtr (T 13) (C (2000)), none⟩,
    ⟨(some 15), .mv (T 14), none⟩,
    ⟨(some 16), .mv (T 1), (some (15, false))⟩,
    ⟨(some 17), .len true (T 16), (some (15, false))⟩,
    ⟨(some 18), .bin .gtr (T 17) (C (2000)), (some (15, false))⟩,
    ⟨(some 19), .pick (T 15) (.const (.bool true)) (T 18), none⟩])
  (.cond (T 19)
    (.seq (.reg [⟨(some 4), .mv (.const (.bool true)), none⟩])
    .ret)
    .skip))
  (.seq (.reg [⟨(some 21), .mv (T 1), none⟩,
    ⟨(some 22), .call true n_codec_Unhex [(T 21)], none⟩,
    ⟨(some 20), .mv (T 22), none⟩,
    ⟨(some 23), .ext (T 20) 0, none⟩,
    ⟨(some 24), .ext (T 20) 1, none⟩,
    ⟨(some 5), .mv (T 23), none⟩,
    ⟨(some 6), .mv (T 24), none⟩])
  (.seq (.reg [⟨(some 25), .mv (T 1), none⟩,
    ⟨(some 26), .call true n_drayageref01_Unhex [(T 25)], none⟩,
    ⟨(some 7), .alloc [(.slice none 0 0), (.int .i64 (0)), (.int .i64 (0))], none⟩,
    ⟨none, .store (some 3) (T 7) (T 26), none⟩])
  (.seq (.reg [⟨(some 28), .mv (T 0), none⟩,
    ⟨(some 29), .call true n_codec_Hex [(T 28)], none⟩,
    ⟨(some 30), .call true n_codec_Unhex [(T 29)], none⟩,
    ⟨(some 27), .mv (T 30), none⟩,
    ⟨(some 31), .ext (T 27) 0, none⟩,
    ⟨(some 32), .ext (T 27) 1, none⟩,
    ⟨(some 8), .mv (T 31), none⟩,
    ⟨(some 9), .mv (T 32), none⟩])
  (.seq (.reg [⟨(some 33), .mv (T 0), none⟩,
    ⟨(some 34), .call true n_codec_Hex [(T 33)], none⟩,
    ⟨(some 35), .mv (T 0), none⟩,
    ⟨(some 36), .call true n_drayageref01_Hex [(T 35)], none⟩,
    ⟨(some 37), .bin .eql (T 34) (T 36), none⟩,
    ⟨(some 38), .mv (T 37), none⟩,
    ⟨(some 39), .mv (T 5), (some (38, true))⟩,
    ⟨(some 40), .b2s (T 39), (some (38, true))⟩,
    ⟨(some 41), .faddr 0 (T 7), (some (38, true))⟩,
    ⟨(some 42), .load none (T 41), (some (38, true))⟩,
    ⟨(some 43), .b2s (T 42), (some (38, true))⟩,
    ⟨(some 44), .bin .eql (T 40) (T 43), (some (38, true))⟩,
    ⟨(some 45), .pick (T 38) (T 44) (.const (.bool false)), none⟩,
    ⟨(some 46), .mv (T 45), none⟩,
    ⟨(some 47), .mv (T 6), (some (46, true))⟩,
    ⟨(some 48), .faddr 2 (T 7), (some (46, true))⟩,
    ⟨(some 49), .load none (T 48), (some (46, true))⟩,
    ⟨(some 50), .bin .eql (T 47) (T 49), (some (46, true))⟩,
    ⟨(some 51), .pick (T 46) (T 50) (.const (.bool false)), none⟩,
    ⟨(some 52), .mv (T 51), none⟩,
    ⟨(some 53), .mv (T 8), (some (52, true))⟩,
    ⟨(some 54), .b2s (T 53), (some (52, true))⟩,
    ⟨(some 55), .mv (T 0), (some (52, true))⟩,
    ⟨(some 56), .b2s (T 55), (some (52, true))⟩,
    ⟨(some 57), .bin .eql (T 54) (T 56), (some (52, true))⟩,
    ⟨(some 58), .pick (T 52) (T 57) (.const (.bool false)), none⟩,
    ⟨(some 59), .mv (T 58), none⟩,
    ⟨(some 60), .mv (T 9), (some (59, true))⟩,
    ⟨(some 61), .bin .eql (T 60) (C (0)), (some (59, true))⟩,
    ⟨(some 62), .pick (T 59) (T 61) (.const (.bool false)), none⟩,
    ⟨(some 4), .mv (T 62), none⟩])
  .ret)))))))
theorem e_drayagelaw01_CodecHex : slimC Tryd.prog 63 (Tryd.f3.body.getD .skip) = s_drayagelaw01_CodecHex := by kernel_rfl
theorem r_drayagelaw01_CodecHex : slimRes Tryd.prog Tryd.f3 = some [.tmp 4] := by kernel_rfl

/-- The slim code of drayage/drayagelaw01.awake. -/
def s_drayagelaw01_awake : SCode :=
  (.seq (.reg [⟨(some 0), .mv (.const (.bool false)), none⟩])
  (.seq (.reg [⟨(some 8), .call true n_codec_Unhex [(.const (.string ⟨#[48, 97, 102, 102]⟩))], none⟩,
    ⟨(some 7), .mv (T 8), none⟩,
    ⟨(some 9), .ext (T 7) 0, none⟩,
    ⟨(some 10), .ext (T 7) 1, none⟩,
    ⟨(some 1), .mv (T 9), none⟩,
    ⟨(some 2), .mv (T 10), none⟩])
  (.seq (.reg [⟨(some 12), .call true n_codec_Unoctal [(.const (.string ⟨#[32, 49, 55, 32]⟩))], none⟩,
    ⟨(some 11), .mv (T 12), none⟩,
    ⟨(some 13), .ext (T 11) 0, none⟩,
    ⟨(some 14), .ext (T 11) 1, none⟩,
    ⟨(some 3), .mv (T 13), none⟩,
    ⟨(some 4), .mv (T 14), none⟩])
  (.seq (.reg [⟨(some 16), .call true n_codec_Unbase64 [(.const (.string ⟨#[89, 81, 61, 61]⟩))], none⟩,
    ⟨(some 15), .mv (T 16), none⟩,
    ⟨(some 17), .ext (T 15) 0, none⟩,
    ⟨(some 18), .ext (T 15) 1, none⟩,
    ⟨(some 5), .mv (T 17), none⟩,
    ⟨(some 6), .mv (T 18), none⟩])
  (.seq (.reg [⟨(some 19), .mv (T 2), none⟩,
    ⟨(some 20), .bin .eql (T 19) (C (0)), none⟩,
    ⟨(some 21), .mv (T 20), none⟩,
    ⟨(some 22), .mv (T 1), (some (21, true))⟩,
    ⟨(some 23), .b2s (T 22), (some (21, true))⟩,
    ⟨(some 24), .bin .eql (T 23) (.const (.string ⟨#[10, 255]⟩)), (some (21, true))⟩,
    ⟨(some 25), .pick (T 21) (T 24) (.const (.bool false)), none⟩,
    ⟨(some 26), .mv (T 25), none⟩,
    ⟨(some 27), .mv (T 1), (some (26, true))⟩,
    ⟨(some 28), .call true n_codec_Hex [(T 27)], (some (26, true))⟩,
    ⟨(some 29), .bin .eql (T 28) (.const (.string ⟨#[48, 97, 102, 102]⟩)), (some (26, true))⟩,
    ⟨(some 30), .pick (T 26) (T 29) (.const (.bool false)), none⟩,
    ⟨(some 31), .mv (T 30), none⟩,
    ⟨(some 32), .mv (T 4), (some (31, true))⟩,
    ⟨(some 33), .bin .eql (T 32) (C (0)), (some (31, true))⟩,
    ⟨(some 34), .pick (T 31) (T 33) (.const (.bool false)), none⟩,
    ⟨(some 35), .mv (T 34), none⟩,
    ⟨(some 36), .mv (T 3), (some (35, true))⟩,
    ⟨(some 37), .bin .eql (T 36) (C (15)), (some (35, true))⟩,
    ⟨(some 38), .pick (T 35) (T 37) (.const (.bool false)), none⟩,
    ⟨(some 39), .mv (T 38), none⟩,
    ⟨(some 40), .mv (T 6), (some (39, true))⟩,
    ⟨(some 41), .bin .eql (T 40) (C (0)), (some (39, true))⟩,
    ⟨(some 42), .pick (T 39) (T 41) (.const (.bool false)), none⟩,
    ⟨(some 43), .mv (T 42), none⟩,
    ⟨(some 44), .mv (T 5), (some (43, true))⟩,
    ⟨(some 45), .b2s (T 44), (some (43, true))⟩,
    ⟨(some 46), .bin .eql (T 45) (.const (.string ⟨#[97]⟩)), (some (43, true))⟩,
    ⟨(some 47), .pick (T 43) (T 46) (.const (.bool false)), none⟩,
    ⟨(some 48), .mv (T 47), none⟩,
    ⟨(some 49), .call true n_codec_Be [(.const (.int .u64 (258))), (C (2))], (some (48, true))⟩,
    ⟨(some 50), .b2s (T 49), (some (48, true))⟩,
    ⟨(some 51), .bin .eql (T 50) (.const (.string ⟨#[1, 2]⟩)), (some (48, true))⟩,
    ⟨(some 52), .pick (T 48) (T 51) (.const (.bool false)), none⟩,
    ⟨(some 0), .mv (T 52), none⟩])
  .ret)))))
theorem e_drayagelaw01_awake : slimC Tryd.prog 53 (Tryd.f9.body.getD .skip) = s_drayagelaw01_awake := by kernel_rfl
theorem r_drayagelaw01_awake : slimRes Tryd.prog Tryd.f9 = some [.tmp 0] := by kernel_rfl

/-- The slim code of drayage/codec.Unbase64. -/
def s_codec_Unbase64 : SCode :=
  (.seq (.reg [⟨(some 2), .mv (.const (.slice none 0 0)), none⟩,
    ⟨(some 3), .mv (C (0)), none⟩])
  (.seq (.seq (.reg [⟨(some 9), .mv (T 0), none⟩,
    ⟨(some 10), .len true (T 9), none⟩,
    ⟨(some 11), .bin .rem (T 10) (C (4)), none⟩,
    ⟨(some 12), .bin .neq (T 11) (C (0)), none⟩])
  (.cond (T 12)
    (.seq (.reg [⟨(some 2), .mv (.const (.slice none 0 0)), none⟩,
      ⟨(some 3), .mv (C (2)), none⟩])
    .ret)
    .skip))
  (.seq (.reg [⟨(some 13), .mv (T 0), none⟩,
    ⟨(some 14), .len true (T 13), none⟩,
    ⟨(some 15), .bin .quo (T 14) (C (4)), none⟩,
    ⟨(some 16), .bin .mul (T 15) (C (3)), none⟩,
    ⟨(some 17), .mks none 1 [(.int .u8 (0))] (C (0)) (T 16), none⟩,
    ⟨(some 4), .mv (T 17), none⟩])
  (.seq (.seq (.reg [⟨(some 5), .mv (C (0)), none⟩])
  (.block 0
    (.loop
      (.seq (.seq (.reg [⟨(some 18), .mv (T 5), none⟩,
        ⟨(some 19), .mv (T 0), none⟩,
        ⟨(some 20), .len true (T 19), none⟩,
        ⟨(some 21), .bin .lss (T 18) (T 20), none⟩])
      (.cond (T 21)
        .skip
        (.exit 0)))
      (.seq (.block 1
        (.seq (.reg [⟨(some 25), .mv (T 0), none⟩,
          ⟨(some 26), .mv (T 5), none⟩,
          ⟨(some 27), .mv (T 5), none⟩,
          ⟨(some 28), .bin .add (T 27) (C (4)), none⟩,
          ⟨(some 29), .sls (T 25) (some (T 26)) (some (T 28)), none⟩,
          ⟨(some 30), .call true n_codec_threeBytes [(T 29)], none⟩,
          ⟨(some 24), .mv (T 30), none⟩,
          ⟨(some 31), .ext (T 24) 0, none⟩,
          ⟨(some 32), .ext (T 24) 1, none⟩,
          ⟨(some 6), .alloc [(.int .u8 (0)), (.int .u8 (0)), (.int .u8 (0))], none⟩,
          ⟨none, .store (some 3) (T 6) (T 31), none⟩,
          ⟨(some 7), .mv (T 32), none⟩])
        (.seq (.reg [⟨(some 33), .mv (T 7), none⟩,
          ⟨(some 34), .bin .lss (T 33) (C (3)), none⟩,
          ⟨(some 8), .mv (T 34), none⟩])
        (.seq (.seq (.reg [⟨(some 35), .mv (T 7), none⟩,
          ⟨(some 36), .bin .eql (T 35) (C (0)), none⟩,
          ⟨(some 37), .mv (T 36), none⟩,
          ⟨(some 38), .mv (T 8), (some (37, false))⟩,
          ⟨(some 39), .mv (T 38), (some (37, false))⟩,
          ⟨(some 40), .mv (T 5), (some (39, true))⟩,
          ⟨(some 41), .bin .add (T 40) (C (4)), (some (39, true))⟩,
          ⟨(some 42), .mv (T 0), (some (39, true))⟩,
          ⟨(some 43), .len true (T 42), (some (39, true))⟩,
          ⟨(some 44), .bin .lss (T 41) (T 43), (some (39, true))⟩,
          ⟨(some 45), .pick (T 39) (T 44) (.const (.bool false)), (some (37, false))⟩,
          ⟨(some 46), .pick (T 37) (.const (.bool true)) (T 45), none⟩])
        (.cond (T 46)
          (.seq (.reg [⟨(some 2), .mv (.const (.slice none 0 0)), none⟩,
            ⟨(some 3), .mv (C (3)), none⟩])
          .ret)
          .skip))
        (.reg [⟨(some 47), .mv (T 4), none⟩,
          ⟨(some 48), .mv (T 7), none⟩,
          ⟨(some 49), .sla 3 none (T 6) none (some (T 48)), none⟩,
          ⟨(some 50), .app none 1 (T 47) (T 49), none⟩,
          ⟨(some 4), .mv (T 50), none⟩])))))
      (.reg [⟨(some 22), .mv (T 5), none⟩,
        ⟨(some 23), .bin .add (T 22) (C (4)), none⟩,
        ⟨(some 5), .mv (T 23), none⟩]))))))
  (.seq (.reg [⟨(some 51), .mv (T 4), none⟩,
    ⟨(some 2), .mv (T 51), none⟩,
    ⟨(some 3), .mv (C (0)), none⟩])
  .ret)))))
theorem e_codec_Unbase64 : slimC Tryd.prog 52 (Tryd.f14.body.getD .skip) = s_codec_Unbase64 := by kernel_rfl
theorem r_codec_Unbase64 : slimRes Tryd.prog Tryd.f14 = some [.tmp 2, .tmp 3] := by kernel_rfl

/-- The slim code of drayage/drayageref01.Unbase64. -/
def s_drayageref01_Unbase64 : SCode :=
  (.seq (.reg [⟨(some 2), .alloc [(.slice none 0 0), (.int .i64 (0)), (.int .i64 (0))], none⟩])
  (.seq (.seq (.reg [⟨(some 11), .mv (T 0), none⟩,
    ⟨(some 12), .len true (T 11), none⟩,
    ⟨(some 13), .bin .rem (T 12) (C (4)), none⟩,
    ⟨(some 14), .bin .neq (T 13) (C (0)), none⟩])
  (.cond (T 14)
    (.seq (.reg [⟨(some 15), .build [(.slice none 0 0), (.int .i64 (0)), (.int .i64 (0))] [(2, 1, (C (2)))], none⟩,
      ⟨none, .store (some 3) (T 2) (T 15), none⟩])
    .ret)
    .skip))
  (.seq (.reg [⟨(some 16), .mv (T 0), none⟩,
    ⟨(some 17), .len true (T 16), none⟩,
    ⟨(some 3), .mv (T 17), none⟩])
  (.seq (.block 0
    (.loop
      (.seq (.seq (.reg [⟨(some 18), .mv (T 3), none⟩,
        ⟨(some 19), .bin .gtr (T 18) (C (0)), none⟩,
        ⟨(some 20), .mv (T 19), none⟩,
        ⟨(some 21), .mv (T 0), (some (20, true))⟩,
        ⟨(some 22), .mv (T 3), (some (20, true))⟩,
        ⟨(some 23), .bin .sub (T 22) (C (1)), (some (20, true))⟩,
        ⟨(some 24), .idxS (T 21) (T 23), (some (20, true))⟩,
        ⟨(some 25), .bin .eql (T 24) (.const (.int .u8 (61))), (some (20, true))⟩,
        ⟨(some 26), .pick (T 20) (T 25) (.const (.bool false)), none⟩,
        ⟨(some 27), .mv (T 26), none⟩,
        ⟨(some 28), .mv (T 0), (some (27, true))⟩,
        ⟨(some 29), .len true (T 28), (some (27, true))⟩,
        ⟨(some 30), .mv (T 3), (some (27, true))⟩,
        ⟨(some 31), .bin .sub (T 29) (T 30), (some (27, true))⟩,
        ⟨(some 32), .bin .lss (T 31) (C (2)), (some (27, true))⟩,
        ⟨(some 33), .pick (T 27) (T 32) (.const (.bool false)), none⟩])
      (.cond (T 33)
        .skip
        (.exit 0)))
      (.block 1
        (.reg [⟨(some 34), .mv (T 3), none⟩,
          ⟨(some 35), .bin .sub (T 34) (C (1)), none⟩,
          ⟨(some 3), .mv (T 35), none⟩])))))
  (.seq (.reg [⟨(some 4), .mv (.const (.slice none 0 0)), none⟩])
  (.seq (.reg [⟨(some 5), .mv (C (0)), none⟩])
  (.seq (.reg [⟨(some 6), .mv (C (0)), none⟩])
  (.seq (.seq (.reg [⟨(some 7), .mv (C (0)), none⟩])
  (.block 2
    (.loop
      (.seq (.seq (.reg [⟨(some 36), .mv (T 7), none⟩,
        ⟨(some 37), .mv (T 3), none⟩,
        ⟨(some 38), .bin .lss (T 36) (T 37), none⟩])
      (.cond (T 38)
        .skip
        (.exit 2)))
      (.seq (.block 3
        (.seq (.reg [⟨(some 41), .mv (T 0), none⟩,
          ⟨(some 42), .mv (T 7), none⟩,
          ⟨(some 43), .idxS (T 41) (T 42), none⟩,
          ⟨(some 44), .call true n_drayageref01_Find [(.const (.string ⟨#[65, 66, 67, 68, 69, 70, 71, 72, 73, 74, 75, 76, 77, 78, 79, 80, 81, 82, 83, 84, 85, 86, 87, 88, 89, 90, 97, 98, 99, 100, 101, 102, 103, 104, 105, 106, 107, 108, 109, 110, 111, 112, 113, 114, 115, 116, 117, 118, 119, 120, 121, 122, 48, 49, 50, 51, 52, 53, 54, 55, 56, 57, 43, 47]⟩)), (T 43)], none⟩,
          ⟨(some 8), .mv (T 44), none⟩])
        (.seq (.seq (.reg [⟨(some 45), .mv (T 8), none⟩,
          ⟨(some 46), .bin .lss (T 45) (C (0)), none⟩])
        (.cond (T 46)
          (.seq (.reg [⟨(some 47), .build [(.slice none 0 0), (.int .i64 (0)), (.int .i64 (0))] [(2, 1, (C (3)))], none⟩,
            ⟨none, .store (some 3) (T 2) (T 47), none⟩])
          .ret)
          .skip))
        (.seq (.reg [⟨(some 48), .mv (T 5), none⟩,
          ⟨(some 49), .bin .mul (C (64)) (T 48), none⟩,
          ⟨(some 50), .mv (T 8), none⟩,
          ⟨(some 51), .bin .add (T 49) (T 50), none⟩,
          ⟨(some 5), .mv (T 51), none⟩])
        (.seq (.reg [⟨(some 52), .mv (T 6), none⟩,
          ⟨(some 53), .bin .add (T 52) (C (6)), none⟩,
          ⟨(some 6), .mv (T 53), none⟩])
        (.seq (.reg [⟨(some 54), .mv (T 6), none⟩,
          ⟨(some 55), .bin .geq (T 54) (C (8)), none⟩])
        (.cond (T 55)
          (.seq (.reg [⟨(some 9), .mv (C (1)), none⟩])
          (.seq (.seq (.reg [⟨(some 10), .mv (C (0)), none⟩])
          (.block 4
            (.loop
              (.seq (.seq (.reg [⟨(some 56), .mv (T 10), none⟩,
                ⟨(some 57), .mv (T 6), none⟩,
                ⟨(some 58), .bin .sub (T 57) (C (8)), none⟩,
                ⟨(some 59), .bin .lss (T 56) (T 58), none⟩])
              (.cond (T 59)
                .skip
                (.exit 4)))
              (.seq (.block 5
                (.reg [⟨(some 62), .mv (T 9), none⟩,
                  ⟨(some 63), .bin .mul (C (2)) (T 62), none⟩,
                  ⟨(some 9), .mv (T 63), none⟩]))
              (.reg [⟨(some 60), .mv (T 10), none⟩,
                ⟨(some 61), .bin .add (T 60) (C (1)), none⟩,
                ⟨(some 10), .mv (T 61), none⟩]))))))
          (.seq (.reg [⟨(some 64), .mv (T 4), none⟩,
            ⟨(some 65), .mv (T 5), none⟩,
            ⟨(some 66), .mv (T 9), none⟩,
            ⟨(some 67), .bin .quo (T 65) (T 66), none⟩,
            ⟨(some 68), .ci .u8 (T 67), none⟩,
            ⟨(some 69), .bslice none [(T 68)], none⟩,
            ⟨(some 70), .app none 1 (T 64) (T 69), none⟩,
            ⟨(some 4), .mv (T 70), none⟩])
          (.seq (.reg [⟨(some 71), .mv (T 5), none⟩,
            ⟨(some 72), .mv (T 9), none⟩,
            ⟨(some 73), .bin .rem (T 71) (T 72), none⟩,
            ⟨(some 5), .mv (T 73), none⟩])
          (.reg [⟨(some 74), .mv (T 6), none⟩,
            ⟨(some 75), .bin .sub (T 74) (C (8)), none⟩,
            ⟨(some 6), .mv (T 75), none⟩])))))
          .skip)))))))
      (.reg [⟨(some 39), .mv (T 7), none⟩,
        ⟨(some 40), .bin .add (T 39) (C (1)), none⟩,
        ⟨(some 7), .mv (T 40), none⟩]))))))
  (.seq (.seq (.reg [⟨(some 76), .mv (T 4), none⟩,
    ⟨(some 77), .call true n_drayageref01_Base64 [(T 76)], none⟩,
    ⟨(some 78), .mv (T 0), none⟩,
    ⟨(some 79), .bin .neq (T 77) (T 78), none⟩])
  (.cond (T 79)
    (.seq (.reg [⟨(some 80), .build [(.slice none 0 0), (.int .i64 (0)), (.int .i64 (0))] [(2, 1, (C (3)))], none⟩,
      ⟨none, .store (some 3) (T 2) (T 80), none⟩])
    .ret)
    .skip))
  (.seq (.reg [⟨(some 81), .mv (T 4), none⟩,
    ⟨(some 82), .build [(.slice none 0 0), (.int .i64 (0)), (.int .i64 (0))] [(0, 1, (T 81))], none⟩,
    ⟨none, .store (some 3) (T 2) (T 82), none⟩])
  .ret))))))))))
theorem e_drayageref01_Unbase64 : slimC Tryd.prog 83 (Tryd.f15.body.getD .skip) = s_drayageref01_Unbase64 := by kernel_rfl
theorem r_drayageref01_Unbase64 : slimRes Tryd.prog Tryd.f15 = some [.cell 2 (some 3)] := by kernel_rfl

/-- The slim code of drayage/codec.Base64. -/
def s_codec_Base64 : SCode :=
  (.seq (.reg [⟨(some 2), .mv (.const (.string ⟨#[]⟩)), none⟩])
  (.seq (.reg [⟨(some 6), .mv (T 0), none⟩,
    ⟨(some 7), .len false (T 6), none⟩,
    ⟨(some 8), .bin .add (T 7) (C (2)), none⟩,
    ⟨(some 9), .bin .quo (T 8) (C (3)), none⟩,
    ⟨(some 10), .bin .mul (T 9) (C (4)), none⟩,
    ⟨(some 11), .mks none 1 [(.int .u8 (0))] (C (0)) (T 10), none⟩,
    ⟨(some 3), .mv (T 11), none⟩])
  (.seq (.seq (.reg [⟨(some 4), .mv (C (0)), none⟩])
  (.block 0
    (.loop
      (.seq (.seq (.reg [⟨(some 12), .mv (T 4), none⟩,
        ⟨(some 13), .mv (T 0), none⟩,
        ⟨(some 14), .len false (T 13), none⟩,
        ⟨(some 15), .bin .lss (T 12) (T 14), none⟩])
      (.cond (T 15)
        .skip
        (.exit 0)))
      (.seq (.block 1
        (.seq (.reg [⟨(some 18), .mv (T 0), none⟩,
          ⟨(some 19), .mv (T 4), none⟩,
          ⟨(some 20), .sl none (T 18) (some (T 19)) none, none⟩,
          ⟨(some 21), .call true n_codec_fourSigns [(T 20)], none⟩,
          ⟨(some 5), .alloc [(.int .u8 (0)), (.int .u8 (0)), (.int .u8 (0)), (.int .u8 (0))], none⟩,
          ⟨none, .store (some 4) (T 5) (T 21), none⟩])
        (.reg [⟨(some 22), .mv (T 3), none⟩,
          ⟨(some 23), .sla 4 none (T 5) none none, none⟩,
          ⟨(some 24), .app none 1 (T 22) (T 23), none⟩,
          ⟨(some 3), .mv (T 24), none⟩])))
      (.reg [⟨(some 16), .mv (T 4), none⟩,
        ⟨(some 17), .bin .add (T 16) (C (3)), none⟩,
        ⟨(some 4), .mv (T 17), none⟩]))))))
  (.seq (.reg [⟨(some 25), .mv (T 3), none⟩,
    ⟨(some 26), .b2s (T 25), none⟩,
    ⟨(some 2), .mv (T 26), none⟩])
  .ret))))
theorem e_codec_Base64 : slimC Tryd.prog 27 (Tryd.f16.body.getD .skip) = s_codec_Base64 := by kernel_rfl
theorem r_codec_Base64 : slimRes Tryd.prog Tryd.f16 = some [.tmp 2] := by kernel_rfl

/-- The slim code of drayage/drayageref01.Base64. -/
def s_drayageref01_Base64 : SCode :=
  (.seq (.reg [⟨(some 2), .mv (.const (.string ⟨#[]⟩)), none⟩])
  (.seq (.reg [⟨(some 3), .mv (.const (.slice none 0 0)), none⟩])
  (.seq (.seq (.reg [⟨(some 4), .mv (C (0)), none⟩])
  (.block 0
    (.loop
      (.seq (.seq (.reg [⟨(some 7), .mv (T 4), none⟩,
        ⟨(some 8), .mv (T 0), none⟩,
        ⟨(some 9), .len false (T 8), none⟩,
        ⟨(some 10), .bin .mul (C (8)) (T 9), none⟩,
        ⟨(some 11), .bin .lss (T 7) (T 10), none⟩])
      (.cond (T 11)
        .skip
        (.exit 0)))
      (.seq (.block 1
        (.seq (.reg [⟨(some 5), .mv (C (0)), none⟩])
        (.seq (.seq (.reg [⟨(some 6), .mv (C (0)), none⟩])
        (.block 2
          (.loop
            (.seq (.seq (.reg [⟨(some 14), .mv (T 6), none⟩,
              ⟨(some 15), .bin .lss (T 14) (C (6)), none⟩])
            (.cond (T 15)
              .skip
              (.exit 2)))
            (.seq (.block 3
              (.reg [⟨(some 18), .mv (T 5), none⟩,
                ⟨(some 19), .bin .mul (C (2)) (T 18), none⟩,
                ⟨(some 20), .mv (T 0), none⟩,
                ⟨(some 21), .mv (T 4), none⟩,
                ⟨(some 22), .mv (T 6), none⟩,
                ⟨(some 23), .bin .add (T 21) (T 22), none⟩,
                ⟨(some 24), .call true n_drayageref01_Bit [(T 20), (T 23)], none⟩,
                ⟨(some 25), .bin .add (T 19) (T 24), none⟩,
                ⟨(some 5), .mv (T 25), none⟩]))
            (.reg [⟨(some 16), .mv (T 6), none⟩,
              ⟨(some 17), .bin .add (T 16) (C (1)), none⟩,
              ⟨(some 6), .mv (T 17), none⟩]))))))
        (.reg [⟨(some 26), .mv (T 3), none⟩,
          ⟨(some 27), .mv (T 5), none⟩,
          ⟨(some 28), .idxS (.const (.string ⟨#[65, 66, 67, 68, 69, 70, 71, 72, 73, 74, 75, 76, 77, 78, 79, 80, 81, 82, 83, 84, 85, 86, 87, 88, 89, 90, 97, 98, 99, 100, 101, 102, 103, 104, 105, 106, 107, 108, 109, 110, 111, 112, 113, 114, 115, 116, 117, 118, 119, 120, 121, 122, 48, 49, 50, 51, 52, 53, 54, 55, 56, 57, 43, 47]⟩)) (T 27), none⟩,
          ⟨(some 29), .bslice none [(T 28)], none⟩,
          ⟨(some 30), .app none 1 (T 26) (T 29), none⟩,
          ⟨(some 3), .mv (T 30), none⟩]))))
      (.reg [⟨(some 12), .mv (T 4), none⟩,
        ⟨(some 13), .bin .add (T 12) (C (6)), none⟩,
        ⟨(some 4), .mv (T 13), none⟩]))))))
  (.seq (.block 4
    (.loop
      (.seq (.seq (.reg [⟨(some 31), .mv (T 3), none⟩,
        ⟨(some 32), .len false (T 31), none⟩,
        ⟨(some 33), .bin .rem (T 32) (C (4)), none⟩,
        ⟨(some 34), .bin .neq (T 33) (C (0)), none⟩])
      (.cond (T 34)
        .skip
        (.exit 4)))
      (.block 5
        (.reg [⟨(some 35), .mv (T 3), none⟩,
          ⟨(some 36), .bslice none [(.const (.int .u8 (61)))], none⟩,
          ⟨(some 37), .app none 1 (T 35) (T 36), none⟩,
          ⟨(some 3), .mv (T 37), none⟩])))))
  (.seq (.reg [⟨(some 38), .mv (T 3), none⟩,
    ⟨(some 39), .b2s (T 38), none⟩,
    ⟨(some 2), .mv (T 39), none⟩])
  .ret)))))
theorem e_drayageref01_Base64 : slimC Tryd.prog 40 (Tryd.f17.body.getD .skip) = s_drayageref01_Base64 := by kernel_rfl
theorem r_drayageref01_Base64 : slimRes Tryd.prog Tryd.f17 = some [.tmp 2] := by kernel_rfl

/-- The slim code of drayage/codec.Undec. -/
def s_codec_Undec : SCode :=
  (.seq (.reg [⟨(some 2), .mv (C (0)), none⟩,
    ⟨(some 3), .mv (C (0)), none⟩])
  (.seq (.seq (.reg [⟨(some 4), .mv (T 0), none⟩,
    ⟨(some 5), .bin .eql (T 4) (.const (.string ⟨#[]⟩)), none⟩,
    ⟨(some 6), .mv (T 5), none⟩,
    ⟨(some 7), .mv (T 0), (some (6, false))⟩,
    ⟨(some 8), .call true n_codec_leadingDigits [(T 7), (C (10))], (some (6, false))⟩,
    ⟨(some 9), .mv (T 0), (some (6, false))⟩,
    ⟨(some 10), .len true (T 9), (some (6, false))⟩,
    ⟨(some 11), .bin .lss (T 8) (T 10), (some (6, false))⟩,
    ⟨(some 12), .pick (T 6) (.const (.bool true)) (T 11), none⟩,
    ⟨(some 13), .mv (T 12), none⟩,
    ⟨(some 14), .mv (T 0), (some (13, false))⟩,
    ⟨(some 15), .idxS (T 14) (C (0)), (some (13, false))⟩,
    ⟨(some 16), .bin .eql (T 15) (.const (.int .u8 (48))), (some (13, false))⟩,
    ⟨(some 17), .mv (T 16), (some (13, false))⟩,
    ⟨(some 18), .mv (T 0), (some (17, true))⟩,
    ⟨(some 19), .len true (T 18), (some (17, true))⟩,
    ⟨(some 20), .bin .gtr (T 19) (C (1)), (some (17, true))⟩,
    ⟨(some 21), .pick (T 17) (T 20) (.const (.bool false)), (some (13, false))⟩,
    ⟨(some 22), .pick (T 13) (.const (.bool true)) (T 21), none⟩])
  (.cond (T 22)
    (.seq (.reg [⟨(some 2), .mv (C (0)), none⟩,
      ⟨(some 3), .mv (C (3)), none⟩])
    .ret)
    .skip))
  (.seq (.reg [⟨(some 23), .mv (T 0), none⟩,
    ⟨(some 24), .call true n_codec_number [(T 23), (C (10))], none⟩,
    ⟨(some 25), .ext (T 24) 0, none⟩,
    ⟨(some 26), .ext (T 24) 1, none⟩,
    ⟨(some 2), .mv (T 25), none⟩,
    ⟨(some 3), .mv (T 26), none⟩])
  .ret)))
theorem e_codec_Undec : slimC Tryd.prog 27 (Tryd.f18.body.getD .skip) = s_codec_Undec := by kernel_rfl
theorem r_codec_Undec : slimRes Tryd.prog Tryd.f18 = some [.tmp 2, .tmp 3] := by kernel_rfl

/-- The slim code of drayage/drayageref01.Undec. -/
def s_drayageref01_Undec : SCode :=
  (.seq (.reg [⟨(some 2), .alloc [(.slice none 0 0), (.int .i64 (0)), (.int .i64 (0))], none⟩])
  (.seq (.seq (.reg [⟨(some 4), .mv (T 0), none⟩,
    ⟨(some 5), .bin .eql (T 4) (.const (.string ⟨#[]⟩)), none⟩,
    ⟨(some 6), .mv (T 5), none⟩,
    ⟨(some 7), .mv (T 0), (some (6, false))⟩,
    ⟨(some 8), .len true (T 7), (some (6, false))⟩,
    ⟨(some 9), .bin .gtr (T 8) (C (1)), (some (6, false))⟩,
    ⟨(some 10), .mv (T 9), (some (6, false))⟩,
    ⟨(some 11), .mv (T 0), (some (10, true))⟩,
    ⟨(some 12), .idxS (T 11) (C (0)), (some (10, true))⟩,
    ⟨(some 13), .bin .eql (T 12) (.const (.int .u8 (48))), (some (10, true))⟩,
    ⟨(some 14), .pick (T 10) (T 13) (.const (.bool false)), (some (6, false))⟩,
    ⟨(some 15), .pick (T 6) (.const (.bool true)) (T 14), none⟩])
  (.cond (T 15)
    (.seq (.reg [⟨(some 16), .build [(.slice none 0 0), (.int .i64 (0)), (.int .i64 (0))] [(2, 1, (C (3)))], none⟩,
      ⟨none, .store (some 3) (T 2) (T 16), none⟩])
    .ret)
    .skip))
  (.seq (.seq (.reg [⟨(some 3), .mv (C (0)), none⟩])
  (.block 0
    (.loop
      (.seq (.seq (.reg [⟨(some 17), .mv (T 3), none⟩,
        ⟨(some 18), .mv (T 0), none⟩,
        ⟨(some 19), .len true (T 18), none⟩,
        ⟨(some 20), .bin .lss (T 17) (T 19), none⟩])
      (.cond (T 20)
        .skip
        (.exit 0)))
      (.seq (.block 1
        (.seq (.reg [⟨(some 23), .mv (T 0), none⟩,
          ⟨(some 24), .mv (T 3), none⟩,
          ⟨(some 25), .idxS (T 23) (T 24), none⟩,
          ⟨(some 26), .bin .lss (T 25) (.const (.int .u8 (48))), none⟩,
          ⟨(some 27), .mv (T 26), none⟩,
          ⟨(some 28), .mv (T 0), (some (27, false))⟩,
          ⟨(some 29), .mv (T 3), (some (27, false))⟩,
          ⟨(some 30), .idxS (T 28) (T 29), (some (27, false))⟩,
          ⟨(some 31), .bin .gtr (T 30) (.const (.int .u8 (57))), (some (27, false))⟩,
          ⟨(some 32), .pick (T 27) (.const (.bool true)) (T 31), none⟩])
        (.cond (T 32)
          (.seq (.reg [⟨(some 33), .build [(.slice none 0 0), (.int .i64 (0)), (.int .i64 (0))] [(2, 1, (C (3)))], none⟩,
            ⟨none, .store (some 3) (T 2) (T 33), none⟩])
          .ret)
          .skip)))
      (.reg [⟨(some 21), .mv (T 3), none⟩,
        ⟨(some 22), .bin .add (T 21) (C (1)), none⟩,
        ⟨(some 3), .mv (T 22), none⟩]))))))
  (.seq (.reg [⟨(some 34), .mv (T 0), none⟩,
    ⟨(some 35), .call true n_drayageref01_number [(T 34), (C (10))], none⟩,
    ⟨none, .store (some 3) (T 2) (T 35), none⟩])
  .ret))))
theorem e_drayageref01_Undec : slimC Tryd.prog 36 (Tryd.f19.body.getD .skip) = s_drayageref01_Undec := by kernel_rfl
theorem r_drayageref01_Undec : slimRes Tryd.prog Tryd.f19 = some [.cell 2 (some 3)] := by kernel_rfl

/-- The slim code of drayage/codec.Dec. -/
def s_codec_Dec : SCode :=
  (.seq (.reg [⟨(some 2), .mv (.const (.string ⟨#[]⟩)), none⟩])
  (.seq (.seq (.reg [⟨(some 3), .mv (T 0), none⟩,
    ⟨(some 4), .bin .lss (T 3) (C (0)), none⟩])
  (.cond (T 4)
    (.seq (.reg [⟨(some 2), .mv (.const (.string ⟨#[]⟩)), none⟩])
    .ret)
    .skip))
  (.seq (.reg [⟨(some 5), .mv (T 0), none⟩,
    ⟨(some 6), .call true n_strconv_Itoa [(T 5)], none⟩,
    ⟨(some 2), .mv (T 6), none⟩])
  .ret)))
theorem e_codec_Dec : slimC Tryd.prog 7 (Tryd.f20.body.getD .skip) = s_codec_Dec := by kernel_rfl
theorem r_codec_Dec : slimRes Tryd.prog Tryd.f20 = some [.tmp 2] := by kernel_rfl

/-- The slim code of drayage/drayageref01.Dec. -/
def s_drayageref01_Dec : SCode :=
  (.seq (.reg [⟨(some 2), .mv (.const (.string ⟨#[]⟩)), none⟩])
  (.seq (.seq (.reg [⟨(some 4), .mv (T 0), none⟩,
    ⟨(some 5), .bin .lss (T 4) (C (0)), none⟩])
  (.cond (T 5)
    (.seq (.reg [⟨(some 2), .mv (.const (.string ⟨#[]⟩)), none⟩])
    .ret)
    .skip))
  (.seq (.reg [⟨(some 3), .mv (.const (.slice none 0 0)), none⟩])
  (.seq (.block 0
    (.loop
      (.seq (.seq (.reg [⟨(some 6), .mv (T 0), none⟩,
        ⟨(some 7), .bin .gtr (T 6) (C (9)), none⟩])
      (.cond (T 7)
        .skip
        (.exit 0)))
      (.block 1
        (.seq (.reg [⟨(some 8), .mv (T 0), none⟩,
          ⟨(some 9), .bin .rem (T 8) (C (10)), none⟩,
          ⟨(some 10), .bin .add (C (48)) (T 9), none⟩,
          ⟨(some 11), .ci .u8 (T 10), none⟩,
          ⟨(some 12), .bsl none [(T 11)], none⟩,
          ⟨(some 13), .mv (T 3), none⟩,
          ⟨(some 14), .app none 1 (T 12) (T 13), none⟩,
          ⟨(some 3), .mv (T 14), none⟩])
        (.reg [⟨(some 15), .mv (T 0), none⟩,
          ⟨(some 16), .bin .quo (T 15) (C (10)), none⟩,
          ⟨(some 0), .mv (T 16), none⟩]))))))
  (.seq (.reg [⟨(some 17), .mv (T 0), none⟩,
    ⟨(some 18), .bin .add (C (48)) (T 17), none⟩,
    ⟨(some 19), .ci .u8 (T 18), none⟩,
    ⟨(some 20), .bsl none [(T 19)], none⟩,
    ⟨(some 21), .mv (T 3), none⟩,
    ⟨(some 22), .app none 1 (T 20) (T 21), none⟩,
    ⟨(some 23), .b2s (T 22), none⟩,
    ⟨(some 2), .mv (T 23), none⟩])
  .ret)))))
theorem e_drayageref01_Dec : slimC Tryd.prog 24 (Tryd.f21.body.getD .skip) = s_drayageref01_Dec := by kernel_rfl
theorem r_drayageref01_Dec : slimRes Tryd.prog Tryd.f21 = some [.tmp 2] := by kernel_rfl

/-- The slim code of drayage/codec.Hex8. -/
def s_codec_Hex8 : SCode :=
  (.seq (.reg [⟨(some 2), .mv (.const (.string ⟨#[]⟩)), none⟩,
    ⟨(some 3), .mv (C (0)), none⟩])
  (.seq (.seq (.reg [⟨(some 4), .mv (T 0), none⟩,
    ⟨(some 5), .bin .lss (T 4) (C (0)), none⟩,
    ⟨(some 6), .mv (T 5), none⟩,
    ⟨(some 7), .mv (T 0), (some (6, false))⟩,
    ⟨(some 8), .bin .gtr (T 7) (C (4294967295)), (some (6, false))⟩,
    ⟨(some 9), .pick (T 6) (.const (.bool true)) (T 8), none⟩])
  (.cond (T 9)
    (.seq (.reg [⟨(some 2), .mv (.const (.string ⟨#[]⟩)), none⟩,
      ⟨(some 3), .mv (C (1)), none⟩])
    .ret)
    .skip))
  (.seq (.reg [⟨(some 10), .mv (T 0), none⟩,
    ⟨(some 11), .ci .u64 (T 10), none⟩,
    ⟨(some 12), .call true n_codec_Be [(T 11), (C (4))], none⟩,
    ⟨(some 13), .call true n_codec_Hex [(T 12)], none⟩,
    ⟨(some 2), .mv (T 13), none⟩,
    ⟨(some 3), .mv (C (0)), none⟩])
  .ret)))
theorem e_codec_Hex8 : slimC Tryd.prog 14 (Tryd.f22.body.getD .skip) = s_codec_Hex8 := by kernel_rfl
theorem r_codec_Hex8 : slimRes Tryd.prog Tryd.f22 = some [.tmp 2, .tmp 3] := by kernel_rfl

/-- The slim code of drayage/drayageref01.Hex8. -/
def s_drayageref01_Hex8 : SCode :=
  (.seq (.reg [⟨(some 2), .mv (.const (.string ⟨#[]⟩)), none⟩,
    ⟨(some 3), .mv (C (0)), none⟩])
  (.seq (.seq (.reg [⟨(some 6), .mv (T 0), none⟩,
    ⟨(some 7), .bin .lss (T 6) (C (0)), none⟩,
    ⟨(some 8), .mv (T 7), none⟩,
    ⟨(some 9), .mv (T 0), (some (8, false))⟩,
    ⟨(some 10), .bin .gtr (T 9) (C (4294967295)), (some (8, false))⟩,
    ⟨(some 11), .pick (T 8) (.const (.bool true)) (T 10), none⟩])
  (.cond (T 11)
    (.seq (.reg [⟨(some 2), .mv (.const (.string ⟨#[]⟩)), none⟩,
      ⟨(some 3), .mv (C (1)), none⟩])
    .ret)
    .skip))
  (.seq (.reg [⟨(some 4), .mv (.const (.slice none 0 0)), none⟩])
  (.seq (.seq (.reg [⟨(some 5), .mv (C (0)), none⟩])
  (.block 0
    (.loop
      (.seq (.seq (.reg [⟨(some 12), .mv (T 5), none⟩,
        ⟨(some 13), .bin .lss (T 12) (C (8)), none⟩])
      (.cond (T 13)
        .skip
        (.exit 0)))
      (.seq (.block 1
        (.seq (.reg [⟨(some 16), .mv (T 0), none⟩,
          ⟨(some 17), .bin .rem (T 16) (C (16)), none⟩,
          ⟨(some 18), .idxS (.const (.string ⟨#[48, 49, 50, 51, 52, 53, 54, 55, 56, 57, 97, 98, 99, 100, 101, 102]⟩)) (T 17), none⟩,
          ⟨(some 19), .bsl none [(T 18)], none⟩,
          ⟨(some 20), .mv (T 4), none⟩,
          ⟨(some 21), .app none 1 (T 19) (T 20), none⟩,
          ⟨(some 4), .mv (T 21), none⟩])
        (.reg [⟨(some 22), .mv (T 0), none⟩,
          ⟨(some 23), .bin .quo (T 22) (C (16)), none⟩,
          ⟨(some 0), .mv (T 23), none⟩])))
      (.reg [⟨(some 14), .mv (T 5), none⟩,
        ⟨(some 15), .bin .add (T 14) (C (1)), none⟩,
        ⟨(some 5), .mv (T 15), none⟩]))))))
  (.seq (.reg [⟨(some 24), .mv (T 4), none⟩,
    ⟨(some 25), .b2s (T 24), none⟩,
    ⟨(some 2), .mv (T 25), none⟩,
    ⟨(some 3), .mv (C (0)), none⟩])
  .ret)))))
theorem e_drayageref01_Hex8 : slimC Tryd.prog 26 (Tryd.f23.body.getD .skip) = s_drayageref01_Hex8 := by kernel_rfl
theorem r_drayageref01_Hex8 : slimRes Tryd.prog Tryd.f23 = some [.tmp 2, .tmp 3] := by kernel_rfl

/-- The slim code of drayage/codec.Unhex8. -/
def s_codec_Unhex8 : SCode :=
  (.seq (.reg [⟨(some 2), .mv (C (0)), none⟩,
    ⟨(some 3), .mv (C (0)), none⟩])
  (.seq (.seq (.reg [⟨(some 7), .mv (T 0), none⟩,
    ⟨(some 8), .len true (T 7), none⟩,
    ⟨(some 9), .bin .neq (T 8) (C (8)), none⟩])
  (.cond (T 9)
    (.seq (.reg [⟨(some 2), .mv (C (0)), none⟩,
      ⟨(some 3), .mv (C (2)), none⟩])
    .ret)
    .skip))
  (.seq (.reg [⟨(some 4), .mv (C (0)), none⟩])
  (.seq (.seq (.reg [⟨(some 10), .mv (T 0), none⟩,
    ⟨(some 11), .len true (T 10), none⟩,
    ⟨(some 12), .mv (C (0)), none⟩])
  (.block 0
    (.loop
      (.seq (.reg [⟨(some 13), .bin .lss (T 12) (T 11), none⟩])
      (.seq (.cond (T 13)
        .skip
        (.exit 0))
      (.seq (.block 1
        (.seq (.reg [⟨(some 14), .mv (T 12), none⟩,
          ⟨(some 5), .mv (T 14), none⟩])
        (.seq (.reg [⟨(some 15), .mv (T 0), none⟩,
          ⟨(some 16), .mv (T 5), none⟩,
          ⟨(some 17), .idxS (T 15) (T 16), none⟩,
          ⟨(some 18), .call true n_codec_smallLetter [(T 17)], none⟩,
          ⟨(some 19), .call true n_strings_IndexByte [(.const (.string ⟨#[48, 49, 50, 51, 52, 53, 54, 55, 56, 57, 97, 98, 99, 100, 101, 102]⟩)), (T 18)], none⟩,
          ⟨(some 6), .mv (T 19), none⟩])
        (.seq (.seq (.reg [⟨(some 20), .mv (T 6), none⟩,
          ⟨(some 21), .bin .lss (T 20) (C (0)), none⟩])
        (.cond (T 21)
          (.seq (.reg [⟨(some 2), .mv (C (0)), none⟩,
            ⟨(some 3), .mv (C (3)), none⟩])
          .ret)
          .skip))
        (.reg [⟨(some 22), .mv (T 4), none⟩,
          ⟨(some 23), .bin .shl (T 22) (.const (.int .u64 (4))), none⟩,
          ⟨(some 24), .mv (T 6), none⟩,
          ⟨(some 25), .bin .or (T 23) (T 24), none⟩,
          ⟨(some 4), .mv (T 25), none⟩])))))
      (.reg [⟨(some 26), .bin .add (T 12) (C (1)), none⟩,
        ⟨(some 12), .mv (T 26), none⟩])))))))
  (.seq (.reg [⟨(some 27), .mv (T 4), none⟩,
    ⟨(some 2), .mv (T 27), none⟩,
    ⟨(some 3), .mv (C (0)), none⟩])
  .ret)))))
theorem e_codec_Unhex8 : slimC Tryd.prog 28 (Tryd.f24.body.getD .skip) = s_codec_Unhex8 := by kernel_rfl
theorem r_codec_Unhex8 : slimRes Tryd.prog Tryd.f24 = some [.tmp 2, .tmp 3] := by kernel_rfl

/-- The slim code of drayage/drayageref01.Unhex8. -/
def s_drayageref01_Unhex8 : SCode :=
  (.seq (.reg [⟨(some 2), .alloc [(.slice none 0 0), (.int .i64 (0)), (.int .i64 (0))], none⟩])
  (.seq (.seq (.reg [⟨(some 6), .mv (T 0), none⟩,
    ⟨(some 7), .len true (T 6), none⟩,
    ⟨(some 8), .bin .neq (T 7) (C (8)), none⟩])
  (.cond (T 8)
    (.seq (.reg [⟨(some 9), .build [(.slice none 0 0), (.int .i64 (0)), (.int .i64 (0))] [(2, 1, (C (2)))], none⟩,
      ⟨none, .store (some 3) (T 2) (T 9), none⟩])
    .ret)
    .skip))
  (.seq (.reg [⟨(some 3), .mv (C (0)), none⟩])
  (.seq (.seq (.reg [⟨(some 4), .mv (C (0)), none⟩])
  (.block 0
    (.loop
      (.seq (.seq (.reg [⟨(some 10), .mv (T 4), none⟩,
        ⟨(some 11), .bin .lss (T 10) (C (8)), none⟩])
      (.cond (T 11)
        .skip
        (.exit 0)))
      (.seq (.block 1
        (.seq (.reg [⟨(some 14), .mv (T 0), none⟩,
          ⟨(some 15), .mv (T 4), none⟩,
          ⟨(some 16), .idxS (T 14) (T 15), none⟩,
          ⟨(some 17), .call true n_drayageref01_Find [(.const (.string ⟨#[48, 49, 50, 51, 52, 53, 54, 55, 56, 57, 97, 98, 99, 100, 101, 102]⟩)), (T 16)], none⟩,
          ⟨(some 5), .mv (T 17), none⟩])
        (.seq (.seq (.reg [⟨(some 18), .mv (T 5), none⟩,
          ⟨(some 19), .bin .lss (T 18) (C (0)), none⟩])
        (.cond (T 19)
          (.reg [⟨(some 20), .mv (T 0), none⟩,
            ⟨(some 21), .mv (T 4), none⟩,
            ⟨(some 22), .idxS (T 20) (T 21), none⟩,
            ⟨(some 23), .call true n_drayageref01_Find [(.const (.string ⟨#[48, 49, 50, 51, 52, 53, 54, 55, 56, 57, 65, 66, 67, 68, 69, 70]⟩)), (T 22)], none⟩,
            ⟨(some 5), .mv (T 23), none⟩])
          .skip))
        (.seq (.seq (.reg [⟨(some 24), .mv (T 5), none⟩,
          ⟨(some 25), .bin .lss (T 24) (C (0)), none⟩])
        (.cond (T 25)
          (.seq (.reg [⟨(some 26), .build [(.slice none 0 0), (.int .i64 (0)), (.int .i64 (0))] [(2, 1, (C (3)))], none⟩,
            ⟨none, .store (some 3) (T 2) (T 26), none⟩])
          .ret)
          .skip))
        (.reg [⟨(some 27), .mv (T 3), none⟩,
          ⟨(some 28), .bin .mul (C (16)) (T 27), none⟩,
          ⟨(some 29), .mv (T 5), none⟩,
          ⟨(some 30), .bin .add (T 28) (T 29), none⟩,
          ⟨(some 3), .mv (T 30), none⟩])))))
      (.reg [⟨(some 12), .mv (T 4), none⟩,
        ⟨(some 13), .bin .add (T 12) (C (1)), none⟩,
        ⟨(some 4), .mv (T 13), none⟩]))))))
  (.seq (.reg [⟨(some 31), .mv (T 3), none⟩,
    ⟨(some 32), .build [(.slice none 0 0), (.int .i64 (0)), (.int .i64 (0))] [(1, 1, (T 31))], none⟩,
    ⟨none, .store (some 3) (T 2) (T 32), none⟩])
  .ret)))))
theorem e_drayageref01_Unhex8 : slimC Tryd.prog 33 (Tryd.f25.body.getD .skip) = s_drayageref01_Unhex8 := by kernel_rfl
theorem r_drayageref01_Unhex8 : slimRes Tryd.prog Tryd.f25 = some [.cell 2 (some 3)] := by kernel_rfl

/-- The slim code of drayage/codec.Be. -/
def s_codec_Be : SCode :=
  (.seq (.reg [⟨(some 4), .mv (.const (.slice none 0 0)), none⟩])
  (.seq (.reg [⟨(some 6), .mv (T 0), none⟩,
    ⟨(some 7), .mv (T 1), none⟩,
    ⟨(some 8), .call true n_codec_Le [(T 6), (T 7)], none⟩,
    ⟨(some 5), .mv (T 8), none⟩])
  (.seq (.reg [⟨(some 9), .mv (T 5), none⟩,
    ⟨(some 10), .call true n_slices_Reversebytebyte [(T 9)], none⟩])
  (.seq (.reg [⟨(some 11), .mv (T 5), none⟩,
    ⟨(some 4), .mv (T 11), none⟩])
  .ret))))
theorem e_codec_Be : slimC Tryd.prog 12 (Tryd.f26.body.getD .skip) = s_codec_Be := by kernel_rfl
theorem r_codec_Be : slimRes Tryd.prog Tryd.f26 = some [.tmp 4] := by kernel_rfl

/-- The slim code of drayage/codec.Le. -/
def s_codec_Le : SCode :=
  (.seq (.reg [⟨(some 4), .mv (.const (.slice none 0 0)), none⟩])
  (.seq (.seq (.reg [⟨(some 7), .mv (T 1), none⟩,
    ⟨(some 8), .bin .lss (T 7) (C (1)), none⟩,
    ⟨(some 9), .mv (T 8), none⟩,
    ⟨(some 10), .mv (T 1), (some (9, false))⟩,
    ⟨(some 11), .bin .gtr (T 10) (C (8)), (some (9, false))⟩,
    ⟨(some 12), .pick (T 9) (.const (.bool true)) (T 11), none⟩])
  (.cond (T 12)
    (.seq (.reg [⟨(some 4), .mv (.const (.slice none 0 0)), none⟩])
    .ret)
    .skip))
  (.seq (.reg [⟨(some 13), .mv (T 1), none⟩,
    ⟨(some 14), .mks none 1 [(.int .u8 (0))] (T 13) (T 13), none⟩,
    ⟨(some 5), .mv (T 14), none⟩])
  (.seq (.seq (.reg [⟨(some 15), .mv (T 1), none⟩,
    ⟨(some 16), .mv (C (0)), none⟩])
  (.block 0
    (.loop
      (.seq (.reg [⟨(some 17), .bin .lss (T 16) (T 15), none⟩])
      (.seq (.cond (T 17)
        .skip
        (.exit 0))
      (.seq (.block 1
        (.seq (.reg [⟨(some 18), .mv (T 16), none⟩,
          ⟨(some 6), .mv (T 18), none⟩])
        (.reg [⟨(some 19), .mv (T 5), none⟩,
          ⟨(some 20), .mv (T 6), none⟩,
          ⟨(some 21), .mv (T 0), none⟩,
          ⟨(some 22), .mv (T 6), none⟩,
          ⟨(some 23), .bin .mul (C (8)) (T 22), none⟩,
          ⟨(some 24), .bin .shr (T 21) (T 23), none⟩,
          ⟨(some 25), .ci .u8 (T 24), none⟩,
          ⟨(some 26), .iaddr none (T 19) (T 20), none⟩,
          ⟨none, .store none (T 26) (T 25), none⟩])))
      (.reg [⟨(some 27), .bin .add (T 16) (C (1)), none⟩,
        ⟨(some 16), .mv (T 27), none⟩])))))))
  (.seq (.reg [⟨(some 28), .mv (T 5), none⟩,
    ⟨(some 4), .mv (T 28), none⟩])
  .ret)))))
theorem e_codec_Le : slimC Tryd.prog 29 (Tryd.f27.body.getD .skip) = s_codec_Le := by kernel_rfl
theorem r_codec_Le : slimRes Tryd.prog Tryd.f27 = some [.tmp 4] := by kernel_rfl

/-- The slim code of drayage/drayageref01.Be. -/
def s_drayageref01_Be : SCode :=
  (.seq (.reg [⟨(some 4), .mv (.const (.slice none 0 0)), none⟩])
  (.seq (.seq (.reg [⟨(some 7), .mv (T 1), none⟩,
    ⟨(some 8), .bin .lss (T 7) (C (1)), none⟩,
    ⟨(some 9), .mv (T 8), none⟩,
    ⟨(some 10), .mv (T 1), (some (9, false))⟩,
    ⟨(some 11), .bin .gtr (T 10) (C (8)), (some (9, false))⟩,
    ⟨(some 12), .pick (T 9) (.const (.bool true)) (T 11), none⟩])
  (.cond (T 12)
    (.seq (.reg [⟨(some 4), .mv (.const (.slice none 0 0)), none⟩])
    .ret)
    .skip))
  (.seq (.reg [⟨(some 5), .mv (.const (.slice none 0 0)), none⟩])
  (.seq (.seq (.reg [⟨(some 6), .mv (C (0)), none⟩])
  (.block 0
    (.loop
      (.seq (.seq (.reg [⟨(some 13), .mv (T 6), none⟩,
        ⟨(some 14), .mv (T 1), none⟩,
        ⟨(some 15), .bin .lss (T 13) (T 14), none⟩])
      (.cond (T 15)
        .skip
        (.exit 0)))
      (.seq (.block 1
        (.seq (.reg [⟨(some 18), .mv (T 0), none⟩,
          ⟨(some 19), .bin .rem (T 18) (.const (.int .u64 (256))), none⟩,
          ⟨(some 20), .ci .u8 (T 19), none⟩,
          ⟨(some 21), .bsl none [(T 20)], none⟩,
          ⟨(some 22), .mv (T 5), none⟩,
          ⟨(some 23), .app none 1 (T 21) (T 22), none⟩,
          ⟨(some 5), .mv (T 23), none⟩])
        (.reg [⟨(some 24), .mv (T 0), none⟩,
          ⟨(some 25), .bin .quo (T 24) (.const (.int .u64 (256))), none⟩,
          ⟨(some 0), .mv (T 25), none⟩])))
      (.reg [⟨(some 16), .mv (T 6), none⟩,
        ⟨(some 17), .bin .add (T 16) (C (1)), none⟩,
        ⟨(some 6), .mv (T 17), none⟩]))))))
  (.seq (.reg [⟨(some 26), .mv (T 5), none⟩,
    ⟨(some 4), .mv (T 26), none⟩])
  .ret)))))
theorem e_drayageref01_Be : slimC Tryd.prog 27 (Tryd.f28.body.getD .skip) = s_drayageref01_Be := by kernel_rfl
theorem r_drayageref01_Be : slimRes Tryd.prog Tryd.f28 = some [.tmp 4] := by kernel_rfl

/-- The slim code of drayage/drayageref01.Turned. -/
def s_drayageref01_Turned : SCode :=
  (.seq (.reg [⟨(some 2), .mv (.const (.slice none 0 0)), none⟩])
  (.seq (.reg [⟨(some 3), .mv (.const (.slice none 0 0)), none⟩])
  (.seq (.seq (.reg [⟨(some 5), .mv (T 0), none⟩,
    ⟨(some 6), .len false (T 5), none⟩,
    ⟨(some 7), .bin .sub (T 6) (C (1)), none⟩,
    ⟨(some 4), .mv (T 7), none⟩])
  (.block 0
    (.loop
      (.seq (.seq (.reg [⟨(some 8), .mv (T 4), none⟩,
        ⟨(some 9), .bin .geq (T 8) (C (0)), none⟩])
      (.cond (T 9)
        .skip
        (.exit 0)))
      (.seq (.block 1
        (.reg [⟨(some 12), .mv (T 3), none⟩,
          ⟨(some 13), .mv (T 0), none⟩,
          ⟨(some 14), .mv (T 4), none⟩,
          ⟨(some 15), .iaddr none (T 13) (T 14), none⟩,
          ⟨(some 16), .load none (T 15), none⟩,
          ⟨(some 17), .bslice none [(T 16)], none⟩,
          ⟨(some 18), .app none 1 (T 12) (T 17), none⟩,
          ⟨(some 3), .mv (T 18), none⟩]))
      (.reg [⟨(some 10), .mv (T 4), none⟩,
        ⟨(some 11), .bin .sub (T 10) (C (1)), none⟩,
        ⟨(some 4), .mv (T 11), none⟩]))))))
  (.seq (.reg [⟨(some 19), .mv (T 3), none⟩,
    ⟨(some 2), .mv (T 19), none⟩])
  .ret))))
theorem e_drayageref01_Turned : slimC Tryd.prog 20 (Tryd.f29.body.getD .skip) = s_drayageref01_Turned := by kernel_rfl
theorem r_drayageref01_Turned : slimRes Tryd.prog Tryd.f29 = some [.tmp 2] := by kernel_rfl

/-- The slim code of drayage/codec.GetBe. -/
def s_codec_GetBe : SCode :=
  (.seq (.reg [⟨(some 6), .mv (.const (.int .u64 (0))), none⟩,
    ⟨(some 7), .mv (.const (.bool false)), none⟩])
  (.seq (.seq (.reg [⟨(some 10), .mv (T 0), none⟩,
    ⟨(some 11), .mv (T 1), none⟩,
    ⟨(some 12), .mv (T 2), none⟩,
    ⟨(some 13), .call true n_codec_stands [(T 10), (T 11), (T 12)], none⟩,
    ⟨(some 14), .un .not (T 13), none⟩])
  (.cond (T 14)
    (.seq (.reg [⟨(some 6), .mv (.const (.int .u64 (0))), none⟩,
      ⟨(some 7), .mv (.const (.bool false)), none⟩])
    .ret)
    .skip))
  (.seq (.reg [⟨(some 8), .mv (.const (.int .u64 (0))), none⟩])
  (.seq (.seq (.reg [⟨(some 15), .mv (T 2), none⟩,
    ⟨(some 16), .mv (C (0)), none⟩])
  (.block 0
    (.loop
      (.seq (.reg [⟨(some 17), .bin .lss (T 16) (T 15), none⟩])
      (.seq (.cond (T 17)
        .skip
        (.exit 0))
      (.seq (.block 1
        (.seq (.reg [⟨(some 18), .mv (T 16), none⟩,
          ⟨(some 9), .mv (T 18), none⟩])
        (.reg [⟨(some 19), .mv (T 8), none⟩,
          ⟨(some 20), .bin .shl (T 19) (.const (.int .u64 (8))), none⟩,
          ⟨(some 21), .mv (T 0), none⟩,
          ⟨(some 22), .mv (T 1), none⟩,
          ⟨(some 23), .mv (T 9), none⟩,
          ⟨(some 24), .bin .add (T 22) (T 23), none⟩,
          ⟨(some 25), .iaddr none (T 21) (T 24), none⟩,
          ⟨(some 26), .load none (T 25), none⟩,
          ⟨(some 27), .ci .u64 (T 26), none⟩,
          ⟨(some 28), .bin .or (T 20) (T 27), none⟩,
          ⟨(some 8), .mv (T 28), none⟩])))
      (.reg [⟨(some 29), .bin .add (T 16) (C (1)), none⟩,
        ⟨(some 16), .mv (T 29), none⟩])))))))
  (.seq (.reg [⟨(some 30), .mv (T 8), none⟩,
    ⟨(some 6), .mv (T 30), none⟩,
    ⟨(some 7), .mv (.const (.bool true)), none⟩])
  .ret)))))
theorem e_codec_GetBe : slimC Tryd.prog 31 (Tryd.f30.body.getD .skip) = s_codec_GetBe := by kernel_rfl
theorem r_codec_GetBe : slimRes Tryd.prog Tryd.f30 = some [.tmp 6, .tmp 7] := by kernel_rfl

/-- The slim code of drayage/drayageref01.GetBe. -/
def s_drayageref01_GetBe : SCode :=
  (.seq (.reg [⟨(some 6), .mv (.const (.int .u64 (0))), none⟩,
    ⟨(some 7), .mv (.const (.bool false)), none⟩])
  (.seq (.seq (.reg [⟨(some 10), .mv (T 2), none⟩,
    ⟨(some 11), .bin .lss (T 10) (C (1)), none⟩,
    ⟨(some 12), .mv (T 11), none⟩,
    ⟨(some 13), .mv (T 2), (some (12, false))⟩,
    ⟨(some 14), .bin .gtr (T 13) (C (8)), (some (12, false))⟩,
    ⟨(some 15), .pick (T 12) (.const (.bool true)) (T 14), none⟩,
    ⟨(some 16), .mv (T 15), none⟩,
    ⟨(some 17), .mv (T 1), (some (16, false))⟩,
    ⟨(some 18), .bin .lss (T 17) (C (0)), (some (16, false))⟩,
    ⟨(some 19), .pick (T 16) (.const (.bool true)) (T 18), none⟩,
    ⟨(some 20), .mv (T 19), none⟩,
    ⟨(some 21), .mv (T 1), (some (20, false))⟩,
    ⟨(some 22), .mv (T 0), (some (20, false))⟩,
    ⟨(some 23), .len false (T 22), (some (20, false))⟩,
    ⟨(some 24), .bin .gtr (T 21) (T 23), (some (20, false))⟩,
    ⟨(some 25), .pick (T 20) (.const (.bool true)) (T 24), none⟩,
    ⟨(some 26), .mv (T 25), none⟩,
    ⟨(some 27), .mv (T 2), (some (26, false))⟩,
    ⟨(some 28), .mv (T 0), (some (26, false))⟩,
    ⟨(some 29), .len false (T 28), (some (26, false))⟩,
    ⟨(some 30), .mv (T 1), (some (26, false))⟩,
    ⟨(some 31), .bin .sub (T 29) (T 30), (some (26, false))⟩,
    ⟨(some 32), .bin .gtr (T 27) (T 31), (some (26, false))⟩,
    ⟨(some 33), .pick (T 26) (.const (.bool true)) (T 32), none⟩])
  (.cond (T 33)
    (.seq (.reg [⟨(some 6), .mv (.const (.int .u64 (0))), none⟩,
      ⟨(some 7), .mv (.const (.bool false)), none⟩])
    .ret)
    .skip))
  (.seq (.reg [⟨(some 8), .mv (.const (.int .u64 (0))), none⟩])
  (.seq (.seq (.reg [⟨(some 9), .mv (C (0)), none⟩])
  (.block 0
    (.loop
      (.seq (.seq (.reg [⟨(some 34), .mv (T 9), none⟩,
        ⟨(some 35), .mv (T 2), none⟩,
        ⟨(some 36), .bin .lss (T 34) (T 35), none⟩])
      (.cond (T 36)
        .skip
        (.exit 0)))
      (.seq (.block 1
        (.reg [⟨(some 39), .mv (T 8), none⟩,
          ⟨(some 40), .bin .mul (T 39) (.const (.int .u64 (256))), none⟩,
          ⟨(some 41), .mv (T 0), none⟩,
          ⟨(some 42), .mv (T 1), none⟩,
          ⟨(some 43), .mv (T 9), none⟩,
          ⟨(some 44), .bin .add (T 42) (T 43), none⟩,
          ⟨(some 45), .iaddr none (T 41) (T 44), none⟩,
          ⟨(some 46), .load none (T 45), none⟩,
          ⟨(some 47), .ci .u64 (T 46), none⟩,
          ⟨(some 48), .bin .add (T 40) (T 47), none⟩,
          ⟨(some 8), .mv (T 48), none⟩]))
      (.reg [⟨(some 37), .mv (T 9), none⟩,
        ⟨(some 38), .bin .add (T 37) (C (1)), none⟩,
        ⟨(some 9), .mv (T 38), none⟩]))))))
  (.seq (.reg [⟨(some 49), .mv (T 8), none⟩,
    ⟨(some 6), .mv (T 49), none⟩,
    ⟨(some 7), .mv (.const (.bool true)), none⟩])
  .ret)))))
theorem e_drayageref01_GetBe : slimC Tryd.prog 50 (Tryd.f31.body.getD .skip) = s_drayageref01_GetBe := by kernel_rfl
theorem r_drayageref01_GetBe : slimRes Tryd.prog Tryd.f31 = some [.tmp 6, .tmp 7] := by kernel_rfl

/-- The slim code of drayage/codec.GetLe. -/
def s_codec_GetLe : SCode :=
  (.seq (.reg [⟨(some 6), .mv (.const (.int .u64 (0))), none⟩,
    ⟨(some 7), .mv (.const (.bool false)), none⟩])
  (.seq (.seq (.reg [⟨(some 10), .mv (T 0), none⟩,
    ⟨(some 11), .mv (T 1), none⟩,
    ⟨(some 12), .mv (T 2), none⟩,
    ⟨(some 13), .call true n_codec_stands [(T 10), (T 11), (T 12)], none⟩,
    ⟨(some 14), .un .not (T 13), none⟩])
  (.cond (T 14)
    (.seq (.reg [⟨(some 6), .mv (.const (.int .u64 (0))), none⟩,
      ⟨(some 7), .mv (.const (.bool false)), none⟩])
    .ret)
    .skip))
  (.seq (.reg [⟨(some 8), .mv (.const (.int .u64 (0))), none⟩])
  (.seq (.seq (.reg [⟨(some 15), .mv (T 2), none⟩,
    ⟨(some 16), .mv (C (0)), none⟩])
  (.block 0
    (.loop
      (.seq (.reg [⟨(some 17), .bin .lss (T 16) (T 15), none⟩])
      (.seq (.cond (T 17)
        .skip
        (.exit 0))
      (.seq (.block 1
        (.seq (.reg [⟨(some 18), .mv (T 16), none⟩,
          ⟨(some 9), .mv (T 18), none⟩])
        (.reg [⟨(some 19), .mv (T 8), none⟩,
          ⟨(some 20), .mv (T 0), none⟩,
          ⟨(some 21), .mv (T 1), none⟩,
          ⟨(some 22), .mv (T 9), none⟩,
          ⟨(some 23), .bin .add (T 21) (T 22), none⟩,
          ⟨(some 24), .iaddr none (T 20) (T 23), none⟩,
          ⟨(some 25), .load none (T 24), none⟩,
          ⟨(some 26), .ci .u64 (T 25), none⟩,
          ⟨(some 27), .mv (T 9), none⟩,
          ⟨(some 28), .bin .mul (C (8)) (T 27), none⟩,
          ⟨(some 29), .bin .shl (T 26) (T 28), none⟩,
          ⟨(some 30), .bin .or (T 19) (T 29), none⟩,
          ⟨(some 8), .mv (T 30), none⟩])))
      (.reg [⟨(some 31), .bin .add (T 16) (C (1)), none⟩,
        ⟨(some 16), .mv (T 31), none⟩])))))))
  (.seq (.reg [⟨(some 32), .mv (T 8), none⟩,
    ⟨(some 6), .mv (T 32), none⟩,
    ⟨(some 7), .mv (.const (.bool true)), none⟩])
  .ret)))))
theorem e_codec_GetLe : slimC Tryd.prog 33 (Tryd.f32.body.getD .skip) = s_codec_GetLe := by kernel_rfl
theorem r_codec_GetLe : slimRes Tryd.prog Tryd.f32 = some [.tmp 6, .tmp 7] := by kernel_rfl

/-- The slim code of drayage/drayageref01.GetLe. -/
def s_drayageref01_GetLe : SCode :=
  (.seq (.reg [⟨(some 6), .mv (.const (.int .u64 (0))), none⟩,
    ⟨(some 7), .mv (.const (.bool false)), none⟩])
  (.seq (.seq (.reg [⟨(some 8), .mv (T 2), none⟩,
    ⟨(some 9), .bin .lss (T 8) (C (1)), none⟩,
    ⟨(some 10), .mv (T 9), none⟩,
    ⟨(some 11), .mv (T 2), (some (10, false))⟩,
    ⟨(some 12), .bin .gtr (T 11) (C (8)), (some (10, false))⟩,
    ⟨(some 13), .pick (T 10) (.const (.bool true)) (T 12), none⟩,
    ⟨(some 14), .mv (T 13), none⟩,
    ⟨(some 15), .mv (T 1), (some (14, false))⟩,
    ⟨(some 16), .bin .lss (T 15) (C (0)), (some (14, false))⟩,
    ⟨(some 17), .pick (T 14) (.const (.bool true)) (T 16), none⟩,
    ⟨(some 18), .mv (T 17), none⟩,
    ⟨(some 19), .mv (T 1), (some (18, false))⟩,
    ⟨(some 20), .mv (T 0), (some (18, false))⟩,
    ⟨(some 21), .len false (T 20), (some (18, false))⟩,
    ⟨(some 22), .bin .gtr (T 19) (T 21), (some (18, false))⟩,
    ⟨(some 23), .pick (T 18) (.const (.bool true)) (T 22), none⟩,
    ⟨(some 24), .mv (T 23), none⟩,
    ⟨(some 25), .mv (T 2), (some (24, false))⟩,
    ⟨(some 26), .mv (T 0), (some (24, false))⟩,
    ⟨(some 27), .len false (T 26), (some (24, false))⟩,
    ⟨(some 28), .mv (T 1), (some (24, false))⟩,
    ⟨(some 29), .bin .sub (T 27) (T 28), (some (24, false))⟩,
    ⟨(some 30), .bin .gtr (T 25) (T 29), (some (24, false))⟩,
    ⟨(some 31), .pick (T 24) (.const (.bool true)) (T 30), none⟩])
  (.cond (T 31)
    (.seq (.reg [⟨(some 6), .mv (.const (.int .u64 (0))), none⟩,
      ⟨(some 7), .mv (.const (.bool false)), none⟩])
    .ret)
    .skip))
  (.seq (.reg [⟨(some 32), .mv (T 0), none⟩,
    ⟨(some 33), .mv (T 1), none⟩,
    ⟨(some 34), .mv (T 1), none⟩,
    ⟨(some 35), .mv (T 2), none⟩,
    ⟨(some 36), .bin .add (T 34) (T 35), none⟩,
    ⟨(some 37), .sl none (T 32) (some (T 33)) (some (T 36)), none⟩,
    ⟨(some 38), .call true n_drayageref01_Turned [(T 37)], none⟩,
    ⟨(some 39), .mv (T 2), none⟩,
    ⟨(some 40), .call true n_drayageref01_GetBe [(T 38), (C (0)), (T 39)], none⟩,
    ⟨(some 41), .ext (T 40) 0, none⟩,
    ⟨(some 42), .ext (T 40) 1, none⟩,
    ⟨(some 6), .mv (T 41), none⟩,
    ⟨(some 7), .mv (T 42), none⟩])
  .ret)))
theorem e_drayageref01_GetLe : slimC Tryd.prog 43 (Tryd.f33.body.getD .skip) = s_drayageref01_GetLe := by kernel_rfl
theorem r_drayageref01_GetLe : slimRes Tryd.prog Tryd.f33 = some [.tmp 6, .tmp 7] := by kernel_rfl

/-- The slim code of drayage/codec.Unoctal. -/
def s_codec_Unoctal : SCode :=
  (.seq (.reg [⟨(some 2), .mv (C (0)), none⟩,
    ⟨(some 3), .mv (C (0)), none⟩])
  (.seq (.reg [⟨(some 6), .mv (T 0), none⟩,
    ⟨(some 7), .call true n_strings_TrimLeft [(T 6), (.const (.string ⟨#[32]⟩))], none⟩,
    ⟨(some 4), .mv (T 7), none⟩])
  (.seq (.reg [⟨(some 8), .mv (T 4), none⟩,
    ⟨(some 9), .call true n_codec_leadingDigits [(T 8), (C (8))], none⟩,
    ⟨(some 5), .mv (T 9), none⟩])
  (.seq (.seq (.reg [⟨(some 10), .mv (T 4), none⟩,
    ⟨(some 11), .mv (T 5), none⟩,
    ⟨(some 12), .sls (T 10) (some (T 11)) none, none⟩,
    ⟨(some 13), .call true n_strings_Trim [(T 12), (.const (.string ⟨#[32, 0]⟩))], none⟩,
    ⟨(some 14), .bin .neq (T 13) (.const (.string ⟨#[]⟩)), none⟩])
  (.cond (T 14)
    (.seq (.reg [⟨(some 2), .mv (C (0)), none⟩,
      ⟨(some 3), .mv (C (3)), none⟩])
    .ret)
    .skip))
  (.seq (.reg [⟨(some 15), .mv (T 4), none⟩,
    ⟨(some 16), .mv (T 5), none⟩,
    ⟨(some 17), .sls (T 15) none (some (T 16)), none⟩,
    ⟨(some 18), .call true n_codec_number [(T 17), (C (8))], none⟩,
    ⟨(some 19), .ext (T 18) 0, none⟩,
    ⟨(some 20), .ext (T 18) 1, none⟩,
    ⟨(some 2), .mv (T 19), none⟩,
    ⟨(some 3), .mv (T 20), none⟩])
  .ret)))))
theorem e_codec_Unoctal : slimC Tryd.prog 21 (Tryd.f34.body.getD .skip) = s_codec_Unoctal := by kernel_rfl
theorem r_codec_Unoctal : slimRes Tryd.prog Tryd.f34 = some [.tmp 2, .tmp 3] := by kernel_rfl

/-- The slim code of drayage/drayageref01.Find. -/
def s_drayageref01_Find : SCode :=
  (.seq (.reg [⟨(some 4), .mv (C (0)), none⟩])
  (.seq (.seq (.reg [⟨(some 5), .mv (C (0)), none⟩])
  (.block 0
    (.loop
      (.seq (.seq (.reg [⟨(some 6), .mv (T 5), none⟩,
        ⟨(some 7), .mv (T 0), none⟩,
        ⟨(some 8), .len true (T 7), none⟩,
        ⟨(some 9), .bin .lss (T 6) (T 8), none⟩])
      (.cond (T 9)
        .skip
        (.exit 0)))
      (.seq (.block 1
        (.seq (.reg [⟨(some 12), .mv (T 0), none⟩,
          ⟨(some 13), .mv (T 5), none⟩,
          ⟨(some 14), .idxS (T 12) (T 13), none⟩,
          ⟨(some 15), .mv (T 1), none⟩,
          ⟨(some 16), .bin .eql (T 14) (T 15), none⟩])
        (.cond (T 16)
          (.seq (.reg [⟨(some 17), .mv (T 5), none⟩,
            ⟨(some 4), .mv (T 17), none⟩])
          .ret)
          .skip)))
      (.reg [⟨(some 10), .mv (T 5), none⟩,
        ⟨(some 11), .bin .add (T 10) (C (1)), none⟩,
        ⟨(some 5), .mv (T 11), none⟩]))))))
  (.seq (.reg [⟨(some 4), .mv (C (-1)), none⟩])
  .ret)))
theorem e_drayageref01_Find : slimC Tryd.prog 18 (Tryd.f36.body.getD .skip) = s_drayageref01_Find := by kernel_rfl
theorem r_drayageref01_Find : slimRes Tryd.prog Tryd.f36 = some [.tmp 4] := by kernel_rfl

/-- The slim code of drayage/codec.threeBytes. -/
def s_codec_threeBytes : SCode :=
  (.seq (.reg [⟨(some 2), .alloc [(.int .u8 (0)), (.int .u8 (0)), (.int .u8 (0))], none⟩,
    ⟨(some 3), .mv (C (0)), none⟩])
  (.seq (.reg [⟨(some 11), .mv (T 0), none⟩,
    ⟨(some 12), .call true n_strings_TrimRight [(T 11), (.const (.string ⟨#[61]⟩))], none⟩,
    ⟨(some 4), .mv (T 12), none⟩])
  (.seq (.seq (.reg [⟨(some 13), .mv (T 4), none⟩,
    ⟨(some 14), .len true (T 13), none⟩,
    ⟨(some 15), .bin .lss (T 14) (C (2)), none⟩])
  (.cond (T 15)
    (.seq (.reg [⟨(some 16), .build [(.int .u8 (0)), (.int .u8 (0)), (.int .u8 (0))] [], none⟩,
      ⟨none, .store (some 3) (T 2) (T 16), none⟩,
      ⟨(some 3), .mv (C (0)), none⟩])
    .ret)
    .skip))
  (.seq (.reg [⟨(some 5), .mv (C (0)), none⟩])
  (.seq (.seq (.reg [⟨(some 17), .mv (C (0)), none⟩])
  (.block 0
    (.loop
      (.seq (.reg [⟨(some 18), .bin .lss (T 17) (C (4)), none⟩])
      (.seq (.cond (T 18)
        .skip
        (.exit 0))
      (.seq (.block 1
        (.seq (.reg [⟨(some 19), .mv (T 17), none⟩,
          ⟨(some 6), .mv (T 19), none⟩])
        (.seq (.reg [⟨(some 20), .mv (T 5), none⟩,
          ⟨(some 21), .bin .shl (T 20) (.const (.int .u64 (6))), none⟩,
          ⟨(some 5), .mv (T 21), none⟩])
        (.seq (.reg [⟨(some 22), .mv (T 6), none⟩,
          ⟨(some 23), .mv (T 4), none⟩,
          ⟨(some 24), .len true (T 23), none⟩,
          ⟨(some 25), .bin .lss (T 22) (T 24), none⟩])
        (.cond (T 25)
          (.seq (.reg [⟨(some 26), .mv (T 4), none⟩,
            ⟨(some 27), .mv (T 6), none⟩,
            ⟨(some 28), .idxS (T 26) (T 27), none⟩,
            ⟨(some 29), .call true n_strings_IndexByte [(.const (.string ⟨#[65, 66, 67, 68, 69, 70, 71, 72, 73, 74, 75, 76, 77, 78, 79, 80, 81, 82, 83, 84, 85, 86, 87, 88, 89, 90, 97, 98, 99, 100, 101, 102, 103, 104, 105, 106, 107, 108, 109, 110, 111, 112, 113, 114, 115, 116, 117, 118, 119, 120, 121, 122, 48, 49, 50, 51, 52, 53, 54, 55, 56, 57, 43, 47]⟩)), (T 28)], none⟩,
            ⟨(some 7), .mv (T 29), none⟩])
          (.seq (.seq (.reg [⟨(some 30), .mv (T 7), none⟩,
            ⟨(some 31), .bin .lss (T 30) (C (0)), none⟩])
          (.cond (T 31)
            (.seq (.reg [⟨(some 32), .build [(.int .u8 (0)), (.int .u8 (0)), (.int .u8 (0))] [], none⟩,
              ⟨none, .store (some 3) (T 2) (T 32), none⟩,
              ⟨(some 3), .mv (C (0)), none⟩])
            .ret)
            .skip))
          (.reg [⟨(some 33), .mv (T 5), none⟩,
            ⟨(some 34), .mv (T 7), none⟩,
            ⟨(some 35), .bin .or (T 33) (T 34), none⟩,
            ⟨(some 5), .mv (T 35), none⟩])))
          .skip)))))
      (.reg [⟨(some 36), .bin .add (T 17) (C (1)), none⟩,
        ⟨(some 17), .mv (T 36), none⟩])))))))
  (.seq (.reg [⟨(some 37), .mv (T 5), none⟩,
    ⟨(some 38), .bin .shr (T 37) (.const (.int .u64 (16))), none⟩,
    ⟨(some 39), .ci .u8 (T 38), none⟩,
    ⟨(some 40), .mv (T 5), none⟩,
    ⟨(some 41), .bin .shr (T 40) (.const (.int .u64 (8))), none⟩,
    ⟨(some 42), .ci .u8 (T 41), none⟩,
    ⟨(some 43), .mv (T 5), none⟩,
    ⟨(some 44), .ci .u8 (T 43), none⟩,
    ⟨(some 45), .build [(.int .u8 (0)), (.int .u8 (0)), (.int .u8 (0))] [(0, 1, (T 39)), (1, 1, (T 42)), (2, 1, (T 44))], none⟩,
    ⟨(some 8), .alloc [(.int .u8 (0)), (.int .u8 (0)), (.int .u8 (0))], none⟩,
    ⟨none, .store (some 3) (T 8) (T 45), none⟩])
  (.seq (.reg [⟨(some 46), .mv (T 4), none⟩,
    ⟨(some 47), .len true (T 46), none⟩,
    ⟨(some 48), .bin .sub (T 47) (C (1)), none⟩,
    ⟨(some 9), .mv (T 48), none⟩])
  (.seq (.seq (.reg [⟨(some 49), .mv (T 9), none⟩,
    ⟨(some 50), .sla 3 none (T 8) none (some (T 49)), none⟩,
    ⟨(some 51), .call true n_codec_fourSigns [(T 50)], none⟩,
    ⟨(some 10), .alloc [(.int .u8 (0)), (.int .u8 (0)), (.int .u8 (0)), (.int .u8 (0))], none⟩,
    ⟨none, .store (some 4) (T 10) (T 51), none⟩])
  (.seq (.reg [⟨(some 52), .sla 4 none (T 10) none none, none⟩,
    ⟨(some 53), .b2s (T 52), none⟩,
    ⟨(some 54), .mv (T 0), none⟩,
    ⟨(some 55), .bin .neq (T 53) (T 54), none⟩])
  (.cond (T 55)
    (.seq (.reg [⟨(some 56), .build [(.int .u8 (0)), (.int .u8 (0)), (.int .u8 (0))] [], none⟩,
      ⟨none, .store (some 3) (T 2) (T 56), none⟩,
      ⟨(some 3), .mv (C (0)), none⟩])
    .ret)
    .skip)))
  (.seq (.reg [⟨(some 57), .load (some 3) (T 8), none⟩,
    ⟨(some 58), .mv (T 9), none⟩,
    ⟨none, .store (some 3) (T 2) (T 57), none⟩,
    ⟨(some 3), .mv (T 58), none⟩])
  .ret)))))))))
theorem e_codec_threeBytes : slimC Tryd.prog 59 (Tryd.f37.body.getD .skip) = s_codec_threeBytes := by kernel_rfl
theorem r_codec_threeBytes : slimRes Tryd.prog Tryd.f37 = some [.cell 2 (some 3), .tmp 3] := by kernel_rfl

/-- The slim code of drayage/codec.fourSigns. -/
def s_codec_fourSigns : SCode :=
  (.seq (.reg [⟨(some 2), .alloc [(.int .u8 (0)), (.int .u8 (0)), (.int .u8 (0)), (.int .u8 (0))], none⟩])
  (.seq (.reg [⟨(some 3), .alloc [(.int .u8 (0)), (.int .u8 (0)), (.int .u8 (0))], none⟩])
  (.seq (.reg [⟨(some 8), .sla 3 none (T 3) none none, none⟩,
    ⟨(some 9), .mv (T 0), none⟩,
    ⟨(some 10), .copy (T 8) (T 9), none⟩,
    ⟨(some 4), .mv (T 10), none⟩])
  (.seq (.reg [⟨(some 11), .iaddrA 3 none (T 3) (C (0)), none⟩,
    ⟨(some 12), .load none (T 11), none⟩,
    ⟨(some 13), .ci .i64 (T 12), none⟩,
    ⟨(some 14), .bin .shl (T 13) (.const (.int .u64 (16))), none⟩,
    ⟨(some 15), .iaddrA 3 none (T 3) (C (1)), none⟩,
    ⟨(some 16), .load none (T 15), none⟩,
    ⟨(some 17), .ci .i64 (T 16), none⟩,
    ⟨(some 18), .bin .shl (T 17) (.const (.int .u64 (8))), none⟩,
    ⟨(some 19), .bin .or (T 14) (T 18), none⟩,
    ⟨(some 20), .iaddrA 3 none (T 3) (C (2)), none⟩,
    ⟨(some 21), .load none (T 20), none⟩,
    ⟨(some 22), .ci .i64 (T 21), none⟩,
    ⟨(some 23), .bin .or (T 19) (T 22), none⟩,
    ⟨(some 5), .mv (T 23), none⟩])
  (.seq (.reg [⟨(some 6), .alloc [(.int .u8 (0)), (.int .u8 (0)), (.int .u8 (0)), (.int .u8 (0))], none⟩])
  (.seq (.seq (.reg [⟨(some 24), .mv (C (0)), none⟩])
  (.block 0
    (.loop
      (.seq (.reg [⟨(some 25), .bin .lss (T 24) (C (4)), none⟩])
      (.seq (.cond (T 25)
        .skip
        (.exit 0))
      (.seq (.block 1
        (.seq (.reg [⟨(some 26), .mv (T 24), none⟩,
          ⟨(some 7), .mv (T 26), none⟩])
        (.seq (.reg [⟨(some 27), .mv (T 7), none⟩,
          ⟨(some 28), .iaddrA 4 none (T 6) (T 27), none⟩,
          ⟨none, .store none (T 28) (.const (.int .u8 (61))), none⟩])
        (.seq (.reg [⟨(some 29), .mv (T 7), none⟩,
          ⟨(some 30), .mv (T 4), none⟩,
          ⟨(some 31), .bin .leq (T 29) (T 30), none⟩])
        (.cond (T 31)
          (.reg [⟨(some 32), .mv (T 7), none⟩,
            ⟨(some 33), .mv (T 5), none⟩,
            ⟨(some 34), .mv (T 7), none⟩,
            ⟨(some 35), .bin .mul (C (6)) (T 34), none⟩,
            ⟨(some 36), .bin .sub (C (18)) (T 35), none⟩,
            ⟨(some 37), .bin .shr (T 33) (T 36), none⟩,
            ⟨(some 38), .bin .and (T 37) (C (63)), none⟩,
            ⟨(some 39), .idxS (.const (.string ⟨#[65, 66, 67, 68, 69, 70, 71, 72, 73, 74, 75, 76, 77, 78, 79, 80, 81, 82, 83, 84, 85, 86, 87, 88, 89, 90, 97, 98, 99, 100, 101, 102, 103, 104, 105, 106, 107, 108, 109, 110, 111, 112, 113, 114, 115, 116, 117, 118, 119, 120, 121, 122, 48, 49, 50, 51, 52, 53, 54, 55, 56, 57, 43, 47]⟩)) (T 38), none⟩,
            ⟨(some 40), .iaddrA 4 none (T 6) (T 32), none⟩,
            ⟨none, .store none (T 40) (T 39), none⟩])
          .skip)))))
      (.reg [⟨(some 41), .bin .add (T 24) (C (1)), none⟩,
        ⟨(some 24), .mv (T 41), none⟩])))))))
  (.seq (.reg [⟨(some 42), .load (some 4) (T 6), none⟩,
    ⟨none, .store (some 4) (T 2) (T 42), none⟩])
  .ret)))))))
theorem e_codec_fourSigns : slimC Tryd.prog 43 (Tryd.f38.body.getD .skip) = s_codec_fourSigns := by kernel_rfl
theorem r_codec_fourSigns : slimRes Tryd.prog Tryd.f38 = some [.cell 2 (some 4)] := by kernel_rfl

/-- The slim code of drayage/drayageref01.Bit. -/
def s_drayageref01_Bit : SCode :=
  (.seq (.reg [⟨(some 4), .mv (C (0)), none⟩])
  (.seq (.seq (.reg [⟨(some 7), .mv (T 1), none⟩,
    ⟨(some 8), .bin .quo (T 7) (C (8)), none⟩,
    ⟨(some 9), .mv (T 0), none⟩,
    ⟨(some 10), .len false (T 9), none⟩,
    ⟨(some 11), .bin .geq (T 8) (T 10), none⟩])
  (.cond (T 11)
    (.seq (.reg [⟨(some 4), .mv (C (0)), none⟩])
    .ret)
    .skip))
  (.seq (.reg [⟨(some 12), .mv (T 0), none⟩,
    ⟨(some 13), .mv (T 1), none⟩,
    ⟨(some 14), .bin .quo (T 13) (C (8)), none⟩,
    ⟨(some 15), .iaddr none (T 12) (T 14), none⟩,
    ⟨(some 16), .load none (T 15), none⟩,
    ⟨(some 17), .ci .i64 (T 16), none⟩,
    ⟨(some 5), .mv (T 17), none⟩])
  (.seq (.seq (.reg [⟨(some 6), .mv (C (0)), none⟩])
  (.block 0
    (.loop
      (.seq (.seq (.reg [⟨(some 18), .mv (T 6), none⟩,
        ⟨(some 19), .mv (T 1), none⟩,
        ⟨(some 20), .bin .rem (T 19) (C (8)), none⟩,
        ⟨(some 21), .bin .sub (C (7)) (T 20), none⟩,
        ⟨(some 22), .bin .lss (T 18) (T 21), none⟩])
      (.cond (T 22)
        .skip
        (.exit 0)))
      (.seq (.block 1
        (.reg [⟨(some 25), .mv (T 5), none⟩,
          ⟨(some 26), .bin .quo (T 25) (C (2)), none⟩,
          ⟨(some 5), .mv (T 26), none⟩]))
      (.reg [⟨(some 23), .mv (T 6), none⟩,
        ⟨(some 24), .bin .add (T 23) (C (1)), none⟩,
        ⟨(some 6), .mv (T 24), none⟩]))))))
  (.seq (.reg [⟨(some 27), .mv (T 5), none⟩,
    ⟨(some 28), .bin .rem (T 27) (C (2)), none⟩,
    ⟨(some 4), .mv (T 28), none⟩])
  .ret)))))
theorem e_drayageref01_Bit : slimC Tryd.prog 29 (Tryd.f39.body.getD .skip) = s_drayageref01_Bit := by kernel_rfl
theorem r_drayageref01_Bit : slimRes Tryd.prog Tryd.f39 = some [.tmp 4] := by kernel_rfl

/-- The slim code of drayage/codec.leadingDigits. -/
def s_codec_leadingDigits : SCode :=
  (.seq (.reg [⟨(some 4), .mv (C (0)), none⟩])
  (.seq (.reg [⟨(some 5), .mv (C (0)), none⟩])
  (.seq (.block 0
    (.loop
      (.seq (.seq (.reg [⟨(some 6), .mv (T 5), none⟩,
        ⟨(some 7), .mv (T 0), none⟩,
        ⟨(some 8), .len true (T 7), none⟩,
        ⟨(some 9), .bin .lss (T 6) (T 8), none⟩,
        ⟨(some 10), .mv (T 9), none⟩,
        ⟨(some 11), .mv (T 0), (some (10, true))⟩,
        ⟨(some 12), .mv (T 5), (some (10, true))⟩,
        ⟨(some 13), .idxS (T 11) (T 12), (some (10, true))⟩,
        ⟨(some 14), .bin .geq (T 13) (.const (.int .u8 (48))), (some (10, true))⟩,
        ⟨(some 15), .pick (T 10) (T 14) (.const (.bool false)), none⟩,
        ⟨(some 16), .mv (T 15), none⟩,
        ⟨(some 17), .mv (T 0), (some (16, true))⟩,
        ⟨(some 18), .mv (T 5), (some (16, true))⟩,
        ⟨(some 19), .idxS (T 17) (T 18), (some (16, true))⟩,
        ⟨(some 20), .bin .sub (T 19) (.const (.int .u8 (48))), (some (16, true))⟩,
        ⟨(some 21), .ci .i64 (T 20), (some (16, true))⟩,
        ⟨(some 22), .mv (T 1), (some (16, true))⟩,
        ⟨(some 23), .bin .lss (T 21) (T 22), (some (16, true))⟩,
        ⟨(some 24), .pick (T 16) (T 23) (.const (.bool false)), none⟩])
      (.cond (T 24)
        .skip
        (.exit 0)))
      (.block 1
        (.reg [⟨(some 25), .mv (T 5), none⟩,
          ⟨(some 26), .bin .add (T 25) (C (1)), none⟩,
          ⟨(some 5), .mv (T 26), none⟩])))))
  (.seq (.reg [⟨(some 27), .mv (T 5), none⟩,
    ⟨(some 4), .mv (T 27), none⟩])
  .ret))))
theorem e_codec_leadingDigits : slimC Tryd.prog 28 (Tryd.f40.body.getD .skip) = s_codec_leadingDigits := by kernel_rfl
theorem r_codec_leadingDigits : slimRes Tryd.prog Tryd.f40 = some [.tmp 4] := by kernel_rfl

/-- The slim code of drayage/codec.number. -/
def s_codec_number : SCode :=
  (.seq (.reg [⟨(some 4), .mv (C (0)), none⟩,
    ⟨(some 5), .mv (C (0)), none⟩])
  (.seq (.reg [⟨(some 6), .mv (C (0)), none⟩])
  (.seq (.seq (.reg [⟨(some 9), .mv (T 0), none⟩,
    ⟨(some 10), .len true (T 9), none⟩,
    ⟨(some 11), .mv (C (0)), none⟩])
  (.block 0
    (.loop
      (.seq (.reg [⟨(some 12), .bin .lss (T 11) (T 10), none⟩])
      (.seq (.cond (T 12)
        .skip
        (.exit 0))
      (.seq (.block 1
        (.seq (.reg [⟨(some 13), .mv (T 11), none⟩,
          ⟨(some 7), .mv (T 13), none⟩])
        (.seq (.reg [⟨(some 14), .mv (T 0), none⟩,
          ⟨(some 15), .mv (T 7), none⟩,
          ⟨(some 16), .idxS (T 14) (T 15), none⟩,
          ⟨(some 17), .bin .sub (T 16) (.const (.int .u8 (48))), none⟩,
          ⟨(some 18), .ci .i64 (T 17), none⟩,
          ⟨(some 8), .mv (T 18), none⟩])
        (.seq (.seq (.reg [⟨(some 19), .mv (T 6), none⟩,
          ⟨(some 20), .mv (T 8), none⟩,
          ⟨(some 21), .bin .sub (C (4611686018427387903)) (T 20), none⟩,
          ⟨(some 22), .mv (T 1), none⟩,
          ⟨(some 23), .bin .quo (T 21) (T 22), none⟩,
          ⟨(some 24), .bin .gtr (T 19) (T 23), none⟩])
        (.cond (T 24)
          (.seq (.reg [⟨(some 4), .mv (C (0)), none⟩,
            ⟨(some 5), .mv (C (4)), none⟩])
          .ret)
          .skip))
        (.reg [⟨(some 25), .mv (T 6), none⟩,
          ⟨(some 26), .mv (T 1), none⟩,
          ⟨(some 27), .bin .mul (T 25) (T 26), none⟩,
          ⟨(some 28), .mv (T 8), none⟩,
          ⟨(some 29), .bin .add (T 27) (T 28), none⟩,
          ⟨(some 6), .mv (T 29), none⟩])))))
      (.reg [⟨(some 30), .bin .add (T 11) (C (1)), none⟩,
        ⟨(some 11), .mv (T 30), none⟩])))))))
  (.seq (.reg [⟨(some 31), .mv (T 6), none⟩,
    ⟨(some 4), .mv (T 31), none⟩,
    ⟨(some 5), .mv (C (0)), none⟩])
  .ret))))
theorem e_codec_number : slimC Tryd.prog 32 (Tryd.f41.body.getD .skip) = s_codec_number := by kernel_rfl
theorem r_codec_number : slimRes Tryd.prog Tryd.f41 = some [.tmp 4, .tmp 5] := by kernel_rfl

/-- The slim code of drayage/drayageref01.number. -/
def s_drayageref01_number : SCode :=
  (.seq (.reg [⟨(some 4), .alloc [(.slice none 0 0), (.int .i64 (0)), (.int .i64 (0))], none⟩])
  (.seq (.reg [⟨(some 5), .mv (C (0)), none⟩])
  (.seq (.seq (.reg [⟨(some 6), .mv (C (0)), none⟩])
  (.block 0
    (.loop
      (.seq (.seq (.reg [⟨(some 8), .mv (T 6), none⟩,
        ⟨(some 9), .mv (T 0), none⟩,
        ⟨(some 10), .len true (T 9), none⟩,
        ⟨(some 11), .bin .lss (T 8) (T 10), none⟩])
      (.cond (T 11)
        .skip
        (.exit 0)))
      (.seq (.block 1
        (.seq (.reg [⟨(some 14), .mv (T 0), none⟩,
          ⟨(some 15), .mv (T 6), none⟩,
          ⟨(some 16), .idxS (T 14) (T 15), none⟩,
          ⟨(some 17), .ci .i64 (T 16), none⟩,
          ⟨(some 18), .bin .sub (T 17) (C (48)), none⟩,
          ⟨(some 7), .mv (T 18), none⟩])
        (.seq (.seq (.reg [⟨(some 19), .mv (T 5), none⟩,
          ⟨(some 20), .mv (T 1), none⟩,
          ⟨(some 21), .bin .quo (C (4611686018427387903)) (T 20), none⟩,
          ⟨(some 22), .bin .gtr (T 19) (T 21), none⟩,
          ⟨(some 23), .mv (T 22), none⟩,
          ⟨(some 24), .mv (T 5), (some (23, false))⟩,
          ⟨(some 25), .mv (T 1), (some (23, false))⟩,
          ⟨(some 26), .bin .mul (T 24) (T 25), (some (23, false))⟩,
          ⟨(some 27), .mv (T 7), (some (23, false))⟩,
          ⟨(some 28), .bin .sub (C (4611686018427387903)) (T 27), (some (23, false))⟩,
          ⟨(some 29), .bin .gtr (T 26) (T 28), (some (23, false))⟩,
          ⟨(some 30), .pick (T 23) (.const (.bool true)) (T 29), none⟩])
        (.cond (T 30)
          (.seq (.reg [⟨(some 31), .build [(.slice none 0 0), (.int .i64 (0)), (.int .i64 (0))] [(2, 1, (C (4)))], none⟩,
            ⟨none, .store (some 3) (T 4) (T 31), none⟩])
          .ret)
          .skip))
        (.reg [⟨(some 32), .mv (T 5), none⟩,
          ⟨(some 33), .mv (T 1), none⟩,
          ⟨(some 34), .bin .mul (T 32) (T 33), none⟩,
          ⟨(some 35), .mv (T 7), none⟩,
          ⟨(some 36), .bin .add (T 34) (T 35), none⟩,
          ⟨(some 5), .mv (T 36), none⟩]))))
      (.reg [⟨(some 12), .mv (T 6), none⟩,
        ⟨(some 13), .bin .add (T 12) (C (1)), none⟩,
        ⟨(some 6), .mv (T 13), none⟩]))))))
  (.seq (.reg [⟨(some 37), .mv (T 5), none⟩,
    ⟨(some 38), .build [(.slice none 0 0), (.int .i64 (0)), (.int .i64 (0))] [(1, 1, (T 37))], none⟩,
    ⟨none, .store (some 3) (T 4) (T 38), none⟩])
  .ret))))
theorem e_drayageref01_number : slimC Tryd.prog 39 (Tryd.f42.body.getD .skip) = s_drayageref01_number := by kernel_rfl
theorem r_drayageref01_number : slimRes Tryd.prog Tryd.f42 = some [.cell 4 (some 3)] := by kernel_rfl

/-- The slim code of drayage/codec.smallLetter. -/
def s_codec_smallLetter : SCode :=
  (.seq (.reg [⟨(some 2), .mv (.const (.int .u8 (0))), none⟩])
  (.seq (.seq (.reg [⟨(some 3), .mv (T 0), none⟩,
    ⟨(some 4), .bin .geq (T 3) (.const (.int .u8 (65))), none⟩,
    ⟨(some 5), .mv (T 4), none⟩,
    ⟨(some 6), .mv (T 0), (some (5, true))⟩,
    ⟨(some 7), .bin .leq (T 6) (.const (.int .u8 (90))), (some (5, true))⟩,
    ⟨(some 8), .pick (T 5) (T 7) (.const (.bool false)), none⟩])
  (.cond (T 8)
    (.seq (.reg [⟨(some 9), .mv (T 0), none⟩,
      ⟨(some 10), .bin .sub (T 9) (.const (.int .u8 (65))), none⟩,
      ⟨(some 11), .bin .add (T 10) (.const (.int .u8 (97))), none⟩,
      ⟨(some 2), .mv (T 11), none⟩])
    .ret)
    .skip))
  (.seq (.reg [⟨(some 12), .mv (T 0), none⟩,
    ⟨(some 2), .mv (T 12), none⟩])
  .ret)))
theorem e_codec_smallLetter : slimC Tryd.prog 13 (Tryd.f44.body.getD .skip) = s_codec_smallLetter := by kernel_rfl
theorem r_codec_smallLetter : slimRes Tryd.prog Tryd.f44 = some [.tmp 2] := by kernel_rfl

/-- The slim code of drayage/codec.stands. -/
def s_codec_stands : SCode :=
  (.seq (.reg [⟨(some 6), .mv (.const (.bool false)), none⟩])
  (.seq (.seq (.reg [⟨(some 7), .mv (T 2), none⟩,
    ⟨(some 8), .bin .lss (T 7) (C (1)), none⟩,
    ⟨(some 9), .mv (T 8), none⟩,
    ⟨(some 10), .mv (T 2), (some (9, false))⟩,
    ⟨(some 11), .bin .gtr (T 10) (C (8)), (some (9, false))⟩,
    ⟨(some 12), .pick (T 9) (.const (.bool true)) (T 11), none⟩,
    ⟨(some 13), .mv (T 12), none⟩,
    ⟨(some 14), .mv (T 1), (some (13, false))⟩,
    ⟨(some 15), .bin .lss (T 14) (C (0)), (some (13, false))⟩,
    ⟨(some 16), .pick (T 13) (.const (.bool true)) (T 15), none⟩])
  (.cond (T 16)
    (.seq (.reg [⟨(some 6), .mv (.const (.bool false)), none⟩])
    .ret)
    .skip))
  (.seq (.reg [⟨(some 17), .mv (T 1), none⟩,
    ⟨(some 18), .mv (T 0), none⟩,
    ⟨(some 19), .len false (T 18), none⟩,
    ⟨(some 20), .mv (T 2), none⟩,
    ⟨(some 21), .bin .sub (T 19) (T 20), none⟩,
    ⟨(some 22), .bin .leq (T 17) (T 21), none⟩,
    ⟨(some 6), .mv (T 22), none⟩])
  .ret)))
theorem e_codec_stands : slimC Tryd.prog 23 (Tryd.f46.body.getD .skip) = s_codec_stands := by kernel_rfl
theorem r_codec_stands : slimRes Tryd.prog Tryd.f46 = some [.tmp 6] := by kernel_rfl

/-- The slim code of drayage/drayagelaw01.CodecBase64. -/
def s_drayagelaw01_CodecBase64 : SCode :=
  (.seq (.reg [⟨(some 4), .mv (.const (.bool false)), none⟩])
  (.seq (.seq (.reg [⟨(some 10), .call true n_drayagelaw01_awake [], none⟩,
    ⟨(some 11), .un .not (T 10), none⟩])
  (.cond (T 11)
    (.seq (.reg [⟨(some 4), .mv (.const (.bool false)), none⟩])
    .ret)
    .skip))
  (.seq (.seq (.reg [⟨(some 12), .mv (T 0), none⟩,
    ⟨(some 13), .len false (T 12), none⟩,
    ⟨(some 14), .bin .gtr (T 13) (C (2000)), none⟩,
    ⟨(some 15), .mv (T 14), none⟩,
    ⟨(some 16), .mv (T 1), (some (15, false))⟩,
    ⟨(some 17), .len true (T 16), (some (15, false))⟩,
    ⟨(some 18), .bin .gtr (T 17) (C (2000)), (some (15, false))⟩,
    ⟨(some 19), .pick (T 15) (.const (.bool true)) (T 18), none⟩])
  (.cond (T 19)
    (.seq (.reg [⟨(some 4), .mv (.const (.bool true)), none⟩])
    .ret)
    .skip))
  (.seq (.reg [⟨(some 21), .mv (T 1), none⟩,
    ⟨(some 22), .call true n_codec_Unbase64 [(T 21)], none⟩,
    ⟨(some 20), .mv (T 22), none⟩,
    ⟨(some 23), .ext (T 20) 0, none⟩,
    ⟨(some 24), .ext (T 20) 1, none⟩,
    ⟨(some 5), .mv (T 23), none⟩,
    ⟨(some 6), .mv (T 24), none⟩])
  (.seq (.reg [⟨(some 25), .mv (T 1), none⟩,
    ⟨(some 26), .call true n_drayageref01_Unbase64 [(T 25)], none⟩,
    ⟨(some 7), .alloc [(.slice none 0 0), (.int .i64 (0)), (.int .i64 (0))], none⟩,
    ⟨none, .store (some 3) (T 7) (T 26), none⟩])
  (.seq (.reg [⟨(some 28), .mv (T 0), none⟩,
    ⟨(some 29), .call true n_codec_Base64 [(T 28)], none⟩,
    ⟨(some 30), .call true n_codec_Unbase64 [(T 29)], none⟩,
    ⟨(some 27), .mv (T 30), none⟩,
    ⟨(some 31), .ext (T 27) 0, none⟩,
    ⟨(some 32), .ext (T 27) 1, none⟩,
    ⟨(some 8), .mv (T 31), none⟩,
    ⟨(some 9), .mv (T 32), none⟩])
  (.seq (.reg [⟨(some 33), .mv (T 0), none⟩,
    ⟨(some 34), .call true n_codec_Base64 [(T 33)], none⟩,
    ⟨(some 35), .mv (T 0), none⟩,
    ⟨(some 36), .call true n_drayageref01_Base64 [(T 35)], none⟩,
    ⟨(some 37), .bin .eql (T 34) (T 36), none⟩,
    ⟨(some 38), .mv (T 37), none⟩,
    ⟨(some 39), .mv (T 5), (some (38, true))⟩,
    ⟨(some 40), .b2s (T 39), (some (38, true))⟩,
    ⟨(some 41), .faddr 0 (T 7), (some (38, true))⟩,
    ⟨(some 42), .load none (T 41), (some (38, true))⟩,
    ⟨(some 43), .b2s (T 42), (some (38, true))⟩,
    ⟨(some 44), .bin .eql (T 40) (T 43), (some (38, true))⟩,
    ⟨(some 45), .pick (T 38) (T 44) (.const (.bool false)), none⟩,
    ⟨(some 46), .mv (T 45), none⟩,
    ⟨(some 47), .mv (T 6), (some (46, true))⟩,
    ⟨(some 48), .faddr 2 (T 7), (some (46, true))⟩,
    ⟨(some 49), .load none (T 48), (some (46, true))⟩,
    ⟨(some 50), .bin .eql (T 47) (T 49), (some (46, true))⟩,
    ⟨(some 51), .pick (T 46) (T 50) (.const (.bool false)), none⟩,
    ⟨(some 52), .mv (T 51), none⟩,
    ⟨(some 53), .mv (T 8), (some (52, true))⟩,
    ⟨(some 54), .b2s (T 53), (some (52, true))⟩,
    ⟨(some 55), .mv (T 0), (some (52, true))⟩,
    ⟨(some 56), .b2s (T 55), (some (52, true))⟩,
    ⟨(some 57), .bin .eql (T 54) (T 56), (some (52, true))⟩,
    ⟨(some 58), .pick (T 52) (T 57) (.const (.bool false)), none⟩,
    ⟨(some 59), .mv (T 58), none⟩,
    ⟨(some 60), .mv (T 9), (some (59, true))⟩,
    ⟨(some 61), .bin .eql (T 60) (C (0)), (some (59, true))⟩,
    ⟨(some 62), .pick (T 59) (T 61) (.const (.bool false)), none⟩,
    ⟨(some 4), .mv (T 62), none⟩])
  .ret)))))))
theorem e_drayagelaw01_CodecBase64 : slimC Tryd.prog 63 (Tryd.f4.body.getD .skip) = s_drayagelaw01_CodecBase64 := by kernel_rfl
theorem r_drayagelaw01_CodecBase64 : slimRes Tryd.prog Tryd.f4 = some [.tmp 4] := by kernel_rfl

/-- The slim code of drayage/drayagelaw01.CodecDec. -/
def s_drayagelaw01_CodecDec : SCode :=
  (.seq (.reg [⟨(some 4), .mv (.const (.bool false)), none⟩])
  (.seq (.seq (.reg [⟨(some 8), .call true n_drayagelaw01_awake [], none⟩,
    ⟨(some 9), .un .not (T 8), none⟩])
  (.cond (T 9)
    (.seq (.reg [⟨(some 4), .mv (.const (.bool false)), none⟩])
    .ret)
    .skip))
  (.seq (.seq (.reg [⟨(some 10), .mv (T 1), none⟩,
    ⟨(some 11), .len true (T 10), none⟩,
    ⟨(some 12), .bin .gtr (T 11) (C (2000)), none⟩])
  (.cond (T 12)
    (.seq (.reg [⟨(some 4), .mv (.const (.bool true)), none⟩])
    .ret)
    .skip))
  (.seq (.reg [⟨(some 14), .mv (T 1), none⟩,
    ⟨(some 15), .call true n_codec_Undec [(T 14)], none⟩,
    ⟨(some 13), .mv (T 15), none⟩,
    ⟨(some 16), .ext (T 13) 0, none⟩,
    ⟨(some 17), .ext (T 13) 1, none⟩,
    ⟨(some 5), .mv (T 16), none⟩,
    ⟨(some 6), .mv (T 17), none⟩])
  (.seq (.reg [⟨(some 18), .mv (T 1), none⟩,
    ⟨(some 19), .call true n_drayageref01_Undec [(T 18)], none⟩,
    ⟨(some 7), .alloc [(.slice none 0 0), (.int .i64 (0)), (.int .i64 (0))], none⟩,
    ⟨none, .store (some 3) (T 7) (T 19), none⟩])
  (.seq (.reg [⟨(some 20), .mv (T 0), none⟩,
    ⟨(some 21), .call true n_codec_Dec [(T 20)], none⟩,
    ⟨(some 22), .mv (T 0), none⟩,
    ⟨(some 23), .call true n_drayageref01_Dec [(T 22)], none⟩,
    ⟨(some 24), .bin .eql (T 21) (T 23), none⟩,
    ⟨(some 25), .mv (T 24), none⟩,
    ⟨(some 26), .mv (T 5), (some (25, true))⟩,
    ⟨(some 27), .faddr 1 (T 7), (some (25, true))⟩,
    ⟨(some 28), .load none (T 27), (some (25, true))⟩,
    ⟨(some 29), .bin .eql (T 26) (T 28), (some (25, true))⟩,
    ⟨(some 30), .pick (T 25) (T 29) (.const (.bool false)), none⟩,
    ⟨(some 31), .mv (T 30), none⟩,
    ⟨(some 32), .mv (T 6), (some (31, true))⟩,
    ⟨(some 33), .faddr 2 (T 7), (some (31, true))⟩,
    ⟨(some 34), .load none (T 33), (some (31, true))⟩,
    ⟨(some 35), .bin .eql (T 32) (T 34), (some (31, true))⟩,
    ⟨(some 36), .pick (T 31) (T 35) (.const (.bool false)), none⟩,
    ⟨(some 37), .mv (T 36), none⟩,
    ⟨(some 38), .mv (T 6), (some (37, true))⟩,
    ⟨(some 39), .bin .neq (T 38) (C (0)), (some (37, true))⟩,
    ⟨(some 40), .mv (T 39), (some (37, true))⟩,
    ⟨(some 41), .mv (T 5), (some (40, false))⟩,
    ⟨(some 42), .call true n_codec_Dec [(T 41)], (some (40, false))⟩,
    ⟨(some 43), .mv (T 1), (some (40, false))⟩,
    ⟨(some 44), .bin .eql (T 42) (T 43), (some (40, false))⟩,
    ⟨(some 45), .pick (T 40) (.const (.bool true)) (T 44), (some (37, true))⟩,
    ⟨(some 46), .pick (T 37) (T 45) (.const (.bool false)), none⟩,
    ⟨(some 4), .mv (T 46), none⟩])
  .ret))))))
theorem e_drayagelaw01_CodecDec : slimC Tryd.prog 47 (Tryd.f5.body.getD .skip) = s_drayagelaw01_CodecDec := by kernel_rfl
theorem r_drayagelaw01_CodecDec : slimRes Tryd.prog Tryd.f5 = some [.tmp 4] := by kernel_rfl

/-- The slim code of drayage/drayagelaw01.CodecHex8. -/
def s_drayagelaw01_CodecHex8 : SCode :=
  (.seq (.reg [⟨(some 4), .mv (.const (.bool false)), none⟩])
  (.seq (.seq (.reg [⟨(some 14), .call true n_drayagelaw01_awake [], none⟩,
    ⟨(some 15), .un .not (T 14), none⟩])
  (.cond (T 15)
    (.seq (.reg [⟨(some 4), .mv (.const (.bool false)), none⟩])
    .ret)
    .skip))
  (.seq (.seq (.reg [⟨(some 16), .mv (T 1), none⟩,
    ⟨(some 17), .len true (T 16), none⟩,
    ⟨(some 18), .bin .gtr (T 17) (C (2000)), none⟩])
  (.cond (T 18)
    (.seq (.reg [⟨(some 4), .mv (.const (.bool true)), none⟩])
    .ret)
    .skip))
  (.seq (.reg [⟨(some 20), .mv (T 0), none⟩,
    ⟨(some 21), .call true n_codec_Hex8 [(T 20)], none⟩,
    ⟨(some 19), .mv (T 21), none⟩,
    ⟨(some 22), .ext (T 19) 0, none⟩,
    ⟨(some 23), .ext (T 19) 1, none⟩,
    ⟨(some 5), .mv (T 22), none⟩,
    ⟨(some 6), .mv (T 23), none⟩])
  (.seq (.reg [⟨(some 25), .mv (T 0), none⟩,
    ⟨(some 26), .call true n_drayageref01_Hex8 [(T 25)], none⟩,
    ⟨(some 24), .mv (T 26), none⟩,
    ⟨(some 27), .ext (T 24) 0, none⟩,
    ⟨(some 28), .ext (T 24) 1, none⟩,
    ⟨(some 7), .mv (T 27), none⟩,
    ⟨(some 8), .mv (T 28), none⟩])
  (.seq (.reg [⟨(some 30), .mv (T 1), none⟩,
    ⟨(some 31), .call true n_codec_Unhex8 [(T 30)], none⟩,
    ⟨(some 29), .mv (T 31), none⟩,
    ⟨(some 32), .ext (T 29) 0, none⟩,
    ⟨(some 33), .ext (T 29) 1, none⟩,
    ⟨(some 9), .mv (T 32), none⟩,
    ⟨(some 10), .mv (T 33), none⟩])
  (.seq (.reg [⟨(some 34), .mv (T 1), none⟩,
    ⟨(some 35), .call true n_drayageref01_Unhex8 [(T 34)], none⟩,
    ⟨(some 11), .alloc [(.slice none 0 0), (.int .i64 (0)), (.int .i64 (0))], none⟩,
    ⟨none, .store (some 3) (T 11) (T 35), none⟩])
  (.seq (.reg [⟨(some 37), .mv (T 5), none⟩,
    ⟨(some 38), .call true n_codec_Unhex8 [(T 37)], none⟩,
    ⟨(some 36), .mv (T 38), none⟩,
    ⟨(some 39), .ext (T 36) 0, none⟩,
    ⟨(some 40), .ext (T 36) 1, none⟩,
    ⟨(some 12), .mv (T 39), none⟩,
    ⟨(some 13), .mv (T 40), none⟩])
  (.seq (.reg [⟨(some 41), .mv (T 5), none⟩,
    ⟨(some 42), .mv (T 7), none⟩,
    ⟨(some 43), .bin .eql (T 41) (T 42), none⟩,
    ⟨(some 44), .mv (T 43), none⟩,
    ⟨(some 45), .mv (T 6), (some (44, true))⟩,
    ⟨(some 46), .mv (T 8), (some (44, true))⟩,
    ⟨(some 47), .bin .eql (T 45) (T 46), (some (44, true))⟩,
    ⟨(some 48), .pick (T 44) (T 47) (.const (.bool false)), none⟩,
    ⟨(some 49), .mv (T 48), none⟩,
    ⟨(some 50), .mv (T 9), (some (49, true))⟩,
    ⟨(some 51), .faddr 1 (T 11), (some (49, true))⟩,
    ⟨(some 52), .load none (T 51), (some (49, true))⟩,
    ⟨(some 53), .bin .eql (T 50) (T 52), (some (49, true))⟩,
    ⟨(some 54), .pick (T 49) (T 53) (.const (.bool false)), none⟩,
    ⟨(some 55), .mv (T 54), none⟩,
    ⟨(some 56), .mv (T 10), (some (55, true))⟩,
    ⟨(some 57), .faddr 2 (T 11), (some (55, true))⟩,
    ⟨(some 58), .load none (T 57), (some (55, true))⟩,
    ⟨(some 59), .bin .eql (T 56) (T 58), (some (55, true))⟩,
    ⟨(some 60), .pick (T 55) (T 59) (.const (.bool false)), none⟩,
    ⟨(some 61), .mv (T 60), none⟩,
    ⟨(some 62), .mv (T 6), (some (61, true))⟩,
    ⟨(some 63), .bin .neq (T 62) (C (0)), (some (61, true))⟩,
    ⟨(some 64), .mv (T 63), (some (61, true))⟩,
    ⟨(some 65), .mv (T 12), (some (64, false))⟩,
    ⟨(some 66), .mv (T 0), (some (64, false))⟩,
    ⟨(some 67), .bin .eql (T 65) (T 66), (some (64, false))⟩,
    ⟨(some 68), .mv (T 67), (some (64, false))⟩,
    ⟨(some 69), .mv (T 13), (some (68, true))⟩,
    ⟨(some 70), .bin .eql (T 69) (C (0)), (some (68, true))⟩,
    ⟨(some 71), .pick (T 68) (T 70) (.const (.bool false)), (some (64, false))⟩,
    ⟨(some 72), .pick (T 64) (.const (.bool true)) (T 71), (some (61, true))⟩,
    ⟨(some 73), .pick (T 61) (T 72) (.const (.bool false)), none⟩,
    ⟨(some 4), .mv (T 73), none⟩])
  .ret)))))))))
theorem e_drayagelaw01_CodecHex8 : slimC Tryd.prog 74 (Tryd.f6.body.getD .skip) = s_drayagelaw01_CodecHex8 := by kernel_rfl
theorem r_drayagelaw01_CodecHex8 : slimRes Tryd.prog Tryd.f6 = some [.tmp 4] := by kernel_rfl

/-- The slim code of drayage/drayagelaw01.CodecBytes. -/
def s_drayagelaw01_CodecBytes : SCode :=
  (.seq (.reg [⟨(some 8), .mv (.const (.bool false)), none⟩])
  (.seq (.seq (.reg [⟨(some 22), .call true n_drayagelaw01_awake [], none⟩,
    ⟨(some 23), .un .not (T 22), none⟩])
  (.cond (T 23)
    (.seq (.reg [⟨(some 8), .mv (.const (.bool false)), none⟩])
    .ret)
    .skip))
  (.seq (.seq (.reg [⟨(some 24), .mv (T 2), none⟩,
    ⟨(some 25), .len false (T 24), none⟩,
    ⟨(some 26), .bin .gtr (T 25) (C (2000)), none⟩])
  (.cond (T 26)
    (.seq (.reg [⟨(some 8), .mv (.const (.bool true)), none⟩])
    .ret)
    .skip))
  (.seq (.reg [⟨(some 27), .mv (T 0), none⟩,
    ⟨(some 28), .mv (T 1), none⟩,
    ⟨(some 29), .call true n_codec_Be [(T 27), (T 28)], none⟩,
    ⟨(some 30), .mv (T 0), none⟩,
    ⟨(some 31), .mv (T 1), none⟩,
    ⟨(some 32), .call true n_codec_Le [(T 30), (T 31)], none⟩,
    ⟨(some 9), .mv (T 29), none⟩,
    ⟨(some 10), .mv (T 32), none⟩])
  (.seq (.seq (.reg [⟨(some 33), .mv (T 9), none⟩,
    ⟨(some 34), .b2s (T 33), none⟩,
    ⟨(some 35), .mv (T 0), none⟩,
    ⟨(some 36), .mv (T 1), none⟩,
    ⟨(some 37), .call false n_drayageref01_Be [(T 35), (T 36)], none⟩,
    ⟨(some 38), .b2s (T 37), none⟩,
    ⟨(some 39), .bin .neq (T 34) (T 38), none⟩,
    ⟨(some 40), .mv (T 39), none⟩,
    ⟨(some 41), .mv (T 10), (some (40, false))⟩,
    ⟨(some 42), .b2s (T 41), (some (40, false))⟩,
    ⟨(some 43), .mv (T 0), (some (40, false))⟩,
    ⟨(some 44), .mv (T 1), (some (40, false))⟩,
    ⟨(some 45), .call false n_drayageref01_Be [(T 43), (T 44)], (some (40, false))⟩,
    ⟨(some 46), .call false n_drayageref01_Turned [(T 45)], (some (40, false))⟩,
    ⟨(some 47), .b2s (T 46), (some (40, false))⟩,
    ⟨(some 48), .bin .neq (T 42) (T 47), (some (40, false))⟩,
    ⟨(some 49), .pick (T 40) (.const (.bool true)) (T 48), none⟩])
  (.cond (T 49)
    (.seq (.reg [⟨(some 8), .mv (.const (.bool false)), none⟩])
    .ret)
    .skip))
  (.seq (.reg [⟨(some 51), .mv (T 2), none⟩,
    ⟨(some 52), .mv (T 3), none⟩,
    ⟨(some 53), .mv (T 1), none⟩,
    ⟨(some 54), .call true n_codec_GetBe [(T 51), (T 52), (T 53)], none⟩,
    ⟨(some 50), .mv (T 54), none⟩,
    ⟨(some 55), .ext (T 50) 0, none⟩,
    ⟨(some 56), .ext (T 50) 1, none⟩,
    ⟨(some 11), .mv (T 55), none⟩,
    ⟨(some 12), .mv (T 56), none⟩])
  (.seq (.reg [⟨(some 58), .mv (T 2), none⟩,
    ⟨(some 59), .mv (T 3), none⟩,
    ⟨(some 60), .mv (T 1), none⟩,
    ⟨(some 61), .call true n_drayageref01_GetBe [(T 58), (T 59), (T 60)], none⟩,
    ⟨(some 57), .mv (T 61), none⟩,
    ⟨(some 62), .ext (T 57) 0, none⟩,
    ⟨(some 63), .ext (T 57) 1, none⟩,
    ⟨(some 13), .mv (T 62), none⟩,
    ⟨(some 14), .mv (T 63), none⟩])
  (.seq (.reg [⟨(some 65), .mv (T 2), none⟩,
    ⟨(some 66), .mv (T 3), none⟩,
    ⟨(some 67), .mv (T 1), none⟩,
    ⟨(some 68), .call true n_codec_GetLe [(T 65), (T 66), (T 67)], none⟩,
    ⟨(some 64), .mv (T 68), none⟩,
    ⟨(some 69), .ext (T 64) 0, none⟩,
    ⟨(some 70), .ext (T 64) 1, none⟩,
    ⟨(some 15), .mv (T 69), none⟩,
    ⟨(some 16), .mv (T 70), none⟩])
  (.seq (.reg [⟨(some 72), .mv (T 2), none⟩,
    ⟨(some 73), .mv (T 3), none⟩,
    ⟨(some 74), .mv (T 1), none⟩,
    ⟨(some 75), .call true n_drayageref01_GetLe [(T 72), (T 73), (T 74)], none⟩,
    ⟨(some 71), .mv (T 75), none⟩,
    ⟨(some 76), .ext (T 71) 0, none⟩,
    ⟨(some 77), .ext (T 71) 1, none⟩,
    ⟨(some 17), .mv (T 76), none⟩,
    ⟨(some 18), .mv (T 77), none⟩])
  (.seq (.seq (.reg [⟨(some 78), .mv (T 11), none⟩,
    ⟨(some 79), .mv (T 13), none⟩,
    ⟨(some 80), .bin .neq (T 78) (T 79), none⟩,
    ⟨(some 81), .mv (T 80), none⟩,
    ⟨(some 82), .mv (T 12), (some (81, false))⟩,
    ⟨(some 83), .mv (T 14), (some (81, false))⟩,
    ⟨(some 84), .beq true (T 82) (T 83), (some (81, false))⟩,
    ⟨(some 85), .pick (T 81) (.const (.bool true)) (T 84), none⟩,
    ⟨(some 86), .mv (T 85), none⟩,
    ⟨(some 87), .mv (T 15), (some (86, false))⟩,
    ⟨(some 88), .mv (T 17), (some (86, false))⟩,
    ⟨(some 89), .bin .neq (T 87) (T 88), (some (86, false))⟩,
    ⟨(some 90), .pick (T 86) (.const (.bool true)) (T 89), none⟩,
    ⟨(some 91), .mv (T 90), none⟩,
    ⟨(some 92), .mv (T 16), (some (91, false))⟩,
    ⟨(some 93), .mv (T 18), (some (91, false))⟩,
    ⟨(some 94), .beq true (T 92) (T 93), (some (91, false))⟩,
    ⟨(some 95), .pick (T 91) (.const (.bool true)) (T 94), none⟩])
  (.cond (T 95)
    (.seq (.reg [⟨(some 8), .mv (.const (.bool false)), none⟩])
    .ret)
    .skip))
  (.seq (.seq (.reg [⟨(some 96), .mv (T 9), none⟩,
    ⟨(some 97), .len false (T 96), none⟩,
    ⟨(some 98), .bin .eql (T 97) (C (0)), none⟩])
  (.cond (T 98)
    (.seq (.reg [⟨(some 99), .mv (T 1), none⟩,
      ⟨(some 100), .bin .lss (T 99) (C (1)), none⟩,
      ⟨(some 101), .mv (T 100), none⟩,
      ⟨(some 102), .mv (T 1), (some (101, false))⟩,
      ⟨(some 103), .bin .gtr (T 102) (C (8)), (some (101, false))⟩,
      ⟨(some 104), .pick (T 101) (.const (.bool true)) (T 103), none⟩,
      ⟨(some 8), .mv (T 104), none⟩])
    .ret)
    .skip))
  (.seq (.reg [⟨(some 105), .emp none, none⟩,
    ⟨(some 106), .mv (T 2), none⟩,
    ⟨(some 107), .app none 1 (T 105) (T 106), none⟩,
    ⟨(some 108), .mv (T 9), none⟩,
    ⟨(some 109), .app none 1 (T 107) (T 108), none⟩,
    ⟨(some 19), .mv (T 109), none⟩])
  (.seq (.reg [⟨(some 111), .mv (T 19), none⟩,
    ⟨(some 112), .mv (T 2), none⟩,
    ⟨(some 113), .len false (T 112), none⟩,
    ⟨(some 114), .mv (T 1), none⟩,
    ⟨(some 115), .call true n_codec_GetBe [(T 111), (T 113), (T 114)], none⟩,
    ⟨(some 110), .mv (T 115), none⟩,
    ⟨(some 116), .ext (T 110) 0, none⟩,
    ⟨(some 117), .ext (T 110) 1, none⟩,
    ⟨(some 20), .mv (T 116), none⟩,
    ⟨(some 12), .mv (T 117), none⟩])
  (.seq (.reg [⟨(some 119), .emp none, none⟩,
    ⟨(some 120), .mv (T 2), none⟩,
    ⟨(some 121), .app none 1 (T 119) (T 120), none⟩,
    ⟨(some 122), .mv (T 10), none⟩,
    ⟨(some 123), .app none 1 (T 121) (T 122), none⟩,
    ⟨(some 124), .mv (T 2), none⟩,
    ⟨(some 125), .len false (T 124), none⟩,
    ⟨(some 126), .mv (T 1), none⟩,
    ⟨(some 127), .call true n_codec_GetLe [(T 123), (T 125), (T 126)], none⟩,
    ⟨(some 118), .mv (T 127), none⟩,
    ⟨(some 128), .ext (T 118) 0, none⟩,
    ⟨(some 129), .ext (T 118) 1, none⟩,
    ⟨(some 21), .mv (T 128), none⟩,
    ⟨(some 14), .mv (T 129), none⟩])
  (.seq (.reg [⟨(some 130), .mv (T 12), none⟩,
    ⟨(some 131), .mv (T 130), none⟩,
    ⟨(some 132), .mv (T 14), (some (131, true))⟩,
    ⟨(some 133), .pick (T 131) (T 132) (.const (.bool false)), none⟩,
    ⟨(some 134), .mv (T 133), none⟩,
    ⟨(some 135), .mv (T 20), (some (134, true))⟩,
    ⟨(some 136), .mv (T 21), (some (134, true))⟩,
    ⟨(some 137), .bin .eql (T 135) (T 136), (some (134, true))⟩,
    ⟨(some 138), .pick (T 134) (T 137) (.const (.bool false)), none⟩,
    ⟨(some 139), .mv (T 138), none⟩,
    ⟨(some 140), .mv (T 20), (some (139, true))⟩,
    ⟨(some 141), .mv (T 1), (some (139, true))⟩,
    ⟨(some 142), .call false n_codec_Be [(T 140), (T 141)], (some (139, true))⟩,
    ⟨(some 143), .b2s (T 142), (some (139, true))⟩,
    ⟨(some 144), .mv (T 9), (some (139, true))⟩,
    ⟨(some 145), .b2s (T 144), (some (139, true))⟩,
    ⟨(some 146), .bin .eql (T 143) (T 145), (some (139, true))⟩,
    ⟨(some 147), .pick (T 139) (T 146) (.const (.bool false)), none⟩,
    ⟨(some 148), .mv (T 147), none⟩,
    ⟨(some 149), .mv (T 1), (some (148, true))⟩,
    ⟨(some 150), .bin .lss (T 149) (C (8)), (some (148, true))⟩,
    ⟨(some 151), .mv (T 150), (some (148, true))⟩,
    ⟨(some 152), .mv (T 20), (some (151, false))⟩,
    ⟨(some 153), .mv (T 0), (some (151, false))⟩,
    ⟨(some 154), .bin .eql (T 152) (T 153), (some (151, false))⟩,
    ⟨(some 155), .pick (T 151) (.const (.bool true)) (T 154), (some (148, true))⟩,
    ⟨(some 156), .pick (T 148) (T 155) (.const (.bool false)), none⟩,
    ⟨(some 8), .mv (T 156), none⟩])
  .ret)))))))))))))))
theorem e_drayagelaw01_CodecBytes : slimC Tryd.prog 157 (Tryd.f7.body.getD .skip) = s_drayagelaw01_CodecBytes := by kernel_rfl
theorem r_drayagelaw01_CodecBytes : slimRes Tryd.prog Tryd.f7 = some [.tmp 8] := by kernel_rfl

/-- The slim code of drayage/drayagelaw01.CodecKeeps. -/
def s_drayagelaw01_CodecKeeps : SCode :=
  (.seq (.reg [⟨(some 4), .mv (.const (.bool false)), none⟩])
  (.seq (.seq (.reg [⟨(some 17), .call true n_drayagelaw01_awake [], none⟩,
    ⟨(some 18), .un .not (T 17), none⟩])
  (.cond (T 18)
    (.seq (.reg [⟨(some 4), .mv (.const (.bool false)), none⟩])
    .ret)
    .skip))
  (.seq (.seq (.reg [⟨(some 19), .mv (T 0), none⟩,
    ⟨(some 20), .len false (T 19), none⟩,
    ⟨(some 21), .bin .gtr (T 20) (C (2000)), none⟩])
  (.cond (T 21)
    (.seq (.reg [⟨(some 4), .mv (.const (.bool true)), none⟩])
    .ret)
    .skip))
  (.seq (.reg [⟨(some 22), .emp none, none⟩,
    ⟨(some 23), .mv (T 0), none⟩,
    ⟨(some 24), .app none 1 (T 22) (T 23), none⟩,
    ⟨(some 25), .bslice none [(.const (.int .u8 (7)))], none⟩,
    ⟨(some 26), .app none 1 (T 24) (T 25), none⟩,
    ⟨(some 5), .mv (T 26), none⟩])
  (.seq (.reg [⟨(some 27), .mv (T 5), none⟩,
    ⟨(some 28), .mv (T 0), none⟩,
    ⟨(some 29), .len false (T 28), none⟩,
    ⟨(some 30), .sl none (T 27) none (some (T 29)), none⟩,
    ⟨(some 31), .call false n_codec_Hex [(T 30)], none⟩,
    ⟨(some 32), .mv (T 5), none⟩,
    ⟨(some 33), .mv (T 0), none⟩,
    ⟨(some 34), .len false (T 33), none⟩,
    ⟨(some 35), .sl none (T 32) none (some (T 34)), none⟩,
    ⟨(some 36), .call false n_codec_Base64 [(T 35)], none⟩,
    ⟨(some 6), .mv (T 31), none⟩,
    ⟨(some 7), .mv (T 36), none⟩])
  (.seq (.reg [⟨(some 38), .mv (T 6), none⟩,
    ⟨(some 39), .call true n_codec_Unhex [(T 38)], none⟩,
    ⟨(some 37), .mv (T 39), none⟩,
    ⟨(some 40), .ext (T 37) 0, none⟩,
    ⟨(some 41), .ext (T 37) 1, none⟩,
    ⟨(some 8), .mv (T 40), none⟩,
    ⟨(some 9), .mv (T 41), none⟩])
  (.seq (.reg [⟨(some 43), .mv (T 7), none⟩,
    ⟨(some 44), .call true n_codec_Unbase64 [(T 43)], none⟩,
    ⟨(some 42), .mv (T 44), none⟩,
    ⟨(some 45), .ext (T 42) 0, none⟩,
    ⟨(some 46), .ext (T 42) 1, none⟩,
    ⟨(some 10), .mv (T 45), none⟩,
    ⟨(some 11), .mv (T 46), none⟩])
  (.seq (.seq (.reg [⟨(some 12), .mv (C (0)), none⟩])
  (.block 0
    (.loop
      (.seq (.seq (.reg [⟨(some 47), .mv (T 12), none⟩,
        ⟨(some 48), .mv (T 8), none⟩,
        ⟨(some 49), .len false (T 48), none⟩,
        ⟨(some 50), .bin .lss (T 47) (T 49), none⟩])
      (.cond (T 50)
        .skip
        (.exit 0)))
      (.seq (.block 1
        (.reg [⟨(some 53), .mv (T 8), none⟩,
          ⟨(some 54), .mv (T 12), none⟩,
          ⟨(some 55), .mv (T 8), none⟩,
          ⟨(some 56), .mv (T 12), none⟩,
          ⟨(some 57), .iaddr none (T 55) (T 56), none⟩,
          ⟨(some 58), .load none (T 57), none⟩,
          ⟨(some 59), .bin .xor (T 58) (.const (.int .u8 (255))), none⟩,
          ⟨(some 60), .iaddr none (T 53) (T 54), none⟩,
          ⟨none, .store none (T 60) (T 59), none⟩]))
      (.reg [⟨(some 51), .mv (T 12), none⟩,
        ⟨(some 52), .bin .add (T 51) (C (1)), none⟩,
        ⟨(some 12), .mv (T 52), none⟩]))))))
  (.seq (.seq (.reg [⟨(some 13), .mv (C (0)), none⟩])
  (.block 2
    (.loop
      (.seq (.seq (.reg [⟨(some 61), .mv (T 13), none⟩,
        ⟨(some 62), .mv (T 10), none⟩,
        ⟨(some 63), .len false (T 62), none⟩,
        ⟨(some 64), .bin .lss (T 61) (T 63), none⟩])
      (.cond (T 64)
        .skip
        (.exit 2)))
      (.seq (.block 3
        (.reg [⟨(some 67), .mv (T 10), none⟩,
          ⟨(some 68), .mv (T 13), none⟩,
          ⟨(some 69), .mv (T 10), none⟩,
          ⟨(some 70), .mv (T 13), none⟩,
          ⟨(some 71), .iaddr none (T 69) (T 70), none⟩,
          ⟨(some 72), .load none (T 71), none⟩,
          ⟨(some 73), .bin .xor (T 72) (.const (.int .u8 (255))), none⟩,
          ⟨(some 74), .iaddr none (T 67) (T 68), none⟩,
          ⟨none, .store none (T 74) (T 73), none⟩]))
      (.reg [⟨(some 65), .mv (T 13), none⟩,
        ⟨(some 66), .bin .add (T 65) (C (1)), none⟩,
        ⟨(some 13), .mv (T 66), none⟩]))))))
  (.seq (.reg [⟨(some 75), .mv (T 1), none⟩,
    ⟨(some 76), .call true n_codec_Be [(T 75), (C (8))], none⟩,
    ⟨(some 14), .mv (T 76), none⟩])
  (.seq (.reg [⟨(some 77), .mv (T 14), none⟩,
    ⟨(some 78), .mv (T 14), none⟩,
    ⟨(some 79), .iaddr none (T 78) (C (0)), none⟩,
    ⟨(some 80), .load none (T 79), none⟩,
    ⟨(some 81), .bin .xor (T 80) (.const (.int .u8 (1))), none⟩,
    ⟨(some 82), .iaddr none (T 77) (C (0)), none⟩,
    ⟨none, .store none (T 82) (T 81), none⟩])
  (.seq (.reg [⟨(some 84), .mv (T 6), none⟩,
    ⟨(some 85), .call true n_codec_Unhex [(T 84)], none⟩,
    ⟨(some 83), .mv (T 85), none⟩,
    ⟨(some 86), .ext (T 83) 0, none⟩,
    ⟨(some 87), .ext (T 83) 1, none⟩,
    ⟨(some 15), .mv (T 86), none⟩,
    ⟨(some 16), .mv (T 87), none⟩])
  (.seq (.reg [⟨(some 88), .mv (T 5), none⟩,
    ⟨(some 89), .b2s (T 88), none⟩,
    ⟨(some 90), .mv (T 0), none⟩,
    ⟨(some 91), .b2s (T 90), none⟩,
    ⟨(some 92), .bin .add (T 91) (.const (.string ⟨#[7]⟩)), none⟩,
    ⟨(some 93), .bin .eql (T 89) (T 92), none⟩,
    ⟨(some 94), .mv (T 93), none⟩,
    ⟨(some 95), .mv (T 15), (some (94, true))⟩,
    ⟨(some 96), .b2s (T 95), (some (94, true))⟩,
    ⟨(some 97), .mv (T 0), (some (94, true))⟩,
    ⟨(some 98), .b2s (T 97), (some (94, true))⟩,
    ⟨(some 99), .bin .eql (T 96) (T 98), (some (94, true))⟩,
    ⟨(some 100), .pick (T 94) (T 99) (.const (.bool false)), none⟩,
    ⟨(some 101), .mv (T 100), none⟩,
    ⟨(some 102), .mv (T 1), (some (101, true))⟩,
    ⟨(some 103), .call false n_codec_Be [(T 102), (C (8))], (some (101, true))⟩,
    ⟨(some 104), .b2s (T 103), (some (101, true))⟩,
    ⟨(some 105), .mv (T 14), (some (101, true))⟩,
    ⟨(some 106), .b2s (T 105), (some (101, true))⟩,
    ⟨(some 107), .bin .neq (T 104) (T 106), (some (101, true))⟩,
    ⟨(some 108), .pick (T 101) (T 107) (.const (.bool false)), none⟩,
    ⟨(some 4), .mv (T 108), none⟩])
  .ret)))))))))))))
theorem e_drayagelaw01_CodecKeeps : slimC Tryd.prog 109 (Tryd.f8.body.getD .skip) = s_drayagelaw01_CodecKeeps := by kernel_rfl
theorem r_drayagelaw01_CodecKeeps : slimRes Tryd.prog Tryd.f8 = some [.tmp 4] := by kernel_rfl

/-- The slim code of slices.Reverse[[]byte,byte]. -/
def s_slices_Reversebytebyte : SCode :=
  (.seq (.reg [⟨(some 4), .mv (T 0), none⟩,
    ⟨(some 5), .len false (T 4), none⟩,
    ⟨(some 6), .bin .sub (T 5) (C (1)), none⟩,
    ⟨(some 2), .mv (C (0)), none⟩,
    ⟨(some 3), .mv (T 6), none⟩])
  (.block 0
    (.loop
      (.seq (.seq (.reg [⟨(some 7), .mv (T 2), none⟩,
        ⟨(some 8), .mv (T 3), none⟩,
        ⟨(some 9), .bin .lss (T 7) (T 8), none⟩])
      (.cond (T 9)
        .skip
        (.exit 0)))
      (.seq (.block 1
        (.reg [⟨(some 14), .mv (T 0), none⟩,
          ⟨(some 15), .mv (T 2), none⟩,
          ⟨(some 16), .mv (T 0), none⟩,
          ⟨(some 17), .mv (T 3), none⟩,
          ⟨(some 18), .mv (T 0), none⟩,
          ⟨(some 19), .mv (T 3), none⟩,
          ⟨(some 20), .iaddr none (T 18) (T 19), none⟩,
          ⟨(some 21), .load none (T 20), none⟩,
          ⟨(some 22), .mv (T 0), none⟩,
          ⟨(some 23), .mv (T 2), none⟩,
          ⟨(some 24), .iaddr none (T 22) (T 23), none⟩,
          ⟨(some 25), .load none (T 24), none⟩,
          ⟨(some 26), .iaddr none (T 14) (T 15), none⟩,
          ⟨none, .store none (T 26) (T 21), none⟩,
          ⟨(some 27), .iaddr none (T 16) (T 17), none⟩,
          ⟨none, .store none (T 27) (T 25), none⟩]))
      (.reg [⟨(some 10), .mv (T 2), none⟩,
        ⟨(some 11), .bin .add (T 10) (C (1)), none⟩,
        ⟨(some 12), .mv (T 3), none⟩,
        ⟨(some 13), .bin .sub (T 12) (C (1)), none⟩,
        ⟨(some 2), .mv (T 11), none⟩,
        ⟨(some 3), .mv (T 13), none⟩]))))))
theorem e_slices_Reversebytebyte : slimC Tryd.prog 28 (Tryd.f45.body.getD .skip) = s_slices_Reversebytebyte := by kernel_rfl
theorem r_slices_Reversebytebyte : slimRes Tryd.prog Tryd.f45 = some [] := by kernel_rfl

/-- The slim code of strings.Trim. -/
def s_strings_Trim : SCode :=
  (.seq (.reg [⟨(some 4), .mv (.const (.string ⟨#[]⟩)), none⟩])
  (.seq (.seq (.reg [⟨(some 7), .mv (T 0), none⟩,
    ⟨(some 8), .bin .eql (T 7) (.const (.string ⟨#[]⟩)), none⟩,
    ⟨(some 9), .mv (T 8), none⟩,
    ⟨(some 10), .mv (T 1), (some (9, false))⟩,
    ⟨(some 11), .bin .eql (T 10) (.const (.string ⟨#[]⟩)), (some (9, false))⟩,
    ⟨(some 12), .pick (T 9) (.const (.bool true)) (T 11), none⟩])
  (.cond (T 12)
    (.seq (.reg [⟨(some 13), .mv (T 0), none⟩,
      ⟨(some 4), .mv (T 13), none⟩])
    .ret)
    .skip))
  (.seq (.seq (.reg [⟨(some 14), .mv (T 1), none⟩,
    ⟨(some 15), .len true (T 14), none⟩,
    ⟨(some 16), .bin .eql (T 15) (C (1)), none⟩,
    ⟨(some 17), .mv (T 16), none⟩,
    ⟨(some 18), .mv (T 1), (some (17, true))⟩,
    ⟨(some 19), .idxS (T 18) (C (0)), (some (17, true))⟩,
    ⟨(some 20), .bin .lss (T 19) (.const (.int .u8 (128))), (some (17, true))⟩,
    ⟨(some 21), .pick (T 17) (T 20) (.const (.bool false)), none⟩])
  (.cond (T 21)
    (.seq (.reg [⟨(some 22), .mv (T 0), none⟩,
      ⟨(some 23), .mv (T 1), none⟩,
      ⟨(some 24), .idxS (T 23) (C (0)), none⟩,
      ⟨(some 25), .call true n_strings_trimRightByte [(T 22), (T 24)], none⟩,
      ⟨(some 26), .mv (T 1), none⟩,
      ⟨(some 27), .idxS (T 26) (C (0)), none⟩,
      ⟨(some 28), .call true n_strings_trimLeftByte [(T 25), (T 27)], none⟩,
      ⟨(some 4), .mv (T 28), none⟩])
    .ret)
    .skip))
  (.seq (.seq (.reg [⟨(some 30), .mv (T 1), none⟩,
    ⟨(some 31), .call true n_strings_makeASCIISet [(T 30)], none⟩,
    ⟨(some 29), .mv (T 31), none⟩,
    ⟨(some 32), .ext (T 29) 0, none⟩,
    ⟨(some 33), .ext (T 29) 1, none⟩,
    ⟨(some 5), .alloc (List.replicate 256 (.bool false)), none⟩,
    ⟨none, .store (some 256) (T 5) (T 32), none⟩,
    ⟨(some 6), .mv (T 33), none⟩])
  (.seq (.reg [⟨(some 34), .mv (T 6), none⟩])
  (.cond (T 34)
    (.seq (.reg [⟨(some 35), .mv (T 0), none⟩,
      ⟨(some 36), .call true n_strings_trimRightASCII [(T 35), (T 5)], none⟩,
      ⟨(some 37), .call true n_strings_trimLeftASCII [(T 36), (T 5)], none⟩,
      ⟨(some 4), .mv (T 37), none⟩])
    .ret)
    .skip)))
  (.seq (.reg [⟨(some 38), .mv (T 0), none⟩,
    ⟨(some 39), .mv (T 1), none⟩,
    ⟨(some 40), .call true n_strings_trimRightUnicode [(T 38), (T 39)], none⟩,
    ⟨(some 41), .mv (T 1), none⟩,
    ⟨(some 42), .call true n_strings_trimLeftUnicode [(T 40), (T 41)], none⟩,
    ⟨(some 4), .mv (T 42), none⟩])
  .ret)))))
theorem e_strings_Trim : slimC Tryd.prog 43 (Tryd.f48.body.getD .skip) = s_strings_Trim := by kernel_rfl
theorem r_strings_Trim : slimRes Tryd.prog Tryd.f48 = some [.tmp 4] := by kernel_rfl

/-- The slim code of strings.trimLeftASCII. -/
def s_strings_trimLeftASCII : SCode :=
  (.seq (.reg [⟨(some 4), .mv (.const (.string ⟨#[]⟩)), none⟩])
  (.seq (.block 0
    (.loop
      (.seq (.seq (.reg [⟨(some 5), .mv (T 0), none⟩,
        ⟨(some 6), .len true (T 5), none⟩,
        ⟨(some 7), .bin .gtr (T 6) (C (0)), none⟩])
      (.cond (T 7)
        .skip
        (.exit 0)))
      (.block 1
        (.seq (.seq (.reg [⟨(some 8), .mv (T 1), none⟩,
          ⟨(some 9), .mv (T 0), none⟩,
          ⟨(some 10), .idxS (T 9) (C (0)), none⟩,
          ⟨(some 11), .call true n_strings_asciiSet_contains [(T 8), (T 10)], none⟩,
          ⟨(some 12), .un .not (T 11), none⟩])
        (.cond (T 12)
          (.exit 0)
          .skip))
        (.reg [⟨(some 13), .mv (T 0), none⟩,
          ⟨(some 14), .sls (T 13) (some (C (1))) none, none⟩,
          ⟨(some 0), .mv (T 14), none⟩]))))))
  (.seq (.reg [⟨(some 15), .mv (T 0), none⟩,
    ⟨(some 4), .mv (T 15), none⟩])
  .ret)))
theorem e_strings_trimLeftASCII : slimC Tryd.prog 16 (Tryd.f54.body.getD .skip) = s_strings_trimLeftASCII := by kernel_rfl
theorem r_strings_trimLeftASCII : slimRes Tryd.prog Tryd.f54 = some [.tmp 4] := by kernel_rfl

/-- The slim code of strings.trimRightASCII. -/
def s_strings_trimRightASCII : SCode :=
  (.seq (.reg [⟨(some 4), .mv (.const (.string ⟨#[]⟩)), none⟩])
  (.seq (.block 0
    (.loop
      (.seq (.seq (.reg [⟨(some 5), .mv (T 0), none⟩,
        ⟨(some 6), .len true (T 5), none⟩,
        ⟨(some 7), .bin .gtr (T 6) (C (0)), none⟩])
      (.cond (T 7)
        .skip
        (.exit 0)))
      (.block 1
        (.seq (.seq (.reg [⟨(some 8), .mv (T 1), none⟩,
          ⟨(some 9), .mv (T 0), none⟩,
          ⟨(some 10), .mv (T 0), none⟩,
          ⟨(some 11), .len true (T 10), none⟩,
          ⟨(some 12), .bin .sub (T 11) (C (1)), none⟩,
          ⟨(some 13), .idxS (T 9) (T 12), none⟩,
          ⟨(some 14), .call true n_strings_asciiSet_contains [(T 8), (T 13)], none⟩,
          ⟨(some 15), .un .not (T 14), none⟩])
        (.cond (T 15)
          (.exit 0)
          .skip))
        (.reg [⟨(some 16), .mv (T 0), none⟩,
          ⟨(some 17), .mv (T 0), none⟩,
          ⟨(some 18), .len true (T 17), none⟩,
          ⟨(some 19), .bin .sub (T 18) (C (1)), none⟩,
          ⟨(some 20), .sls (T 16) none (some (T 19)), none⟩,
          ⟨(some 0), .mv (T 20), none⟩]))))))
  (.seq (.reg [⟨(some 21), .mv (T 0), none⟩,
    ⟨(some 4), .mv (T 21), none⟩])
  .ret)))
theorem e_strings_trimRightASCII : slimC Tryd.prog 22 (Tryd.f57.body.getD .skip) = s_strings_trimRightASCII := by kernel_rfl
theorem r_strings_trimRightASCII : slimRes Tryd.prog Tryd.f57 = some [.tmp 4] := by kernel_rfl

/-- The slim code of strings.makeASCIISet. -/
def s_strings_makeASCIISet : SCode :=
  (.seq (.reg [⟨(some 2), .alloc (List.replicate 256 (.bool false)), none⟩,
    ⟨(some 3), .mv (.const (.bool false)), none⟩])
  (.seq (.seq (.reg [⟨(some 4), .mv (C (0)), none⟩])
  (.block 0
    (.loop
      (.seq (.seq (.reg [⟨(some 6), .mv (T 4), none⟩,
        ⟨(some 7), .mv (T 0), none⟩,
        ⟨(some 8), .len true (T 7), none⟩,
        ⟨(some 9), .bin .lss (T 6) (T 8), none⟩])
      (.cond (T 9)
        .skip
        (.exit 0)))
      (.seq (.block 1
        (.seq (.reg [⟨(some 12), .mv (T 0), none⟩,
          ⟨(some 13), .mv (T 4), none⟩,
          ⟨(some 14), .idxS (T 12) (T 13), none⟩,
          ⟨(some 5), .mv (T 14), none⟩])
        (.seq (.seq (.reg [⟨(some 15), .mv (T 5), none⟩,
          ⟨(some 16), .bin .geq (T 15) (.const (.int .u8 (128))), none⟩])
        (.cond (T 16)
          (.seq (.reg [⟨(some 17), .load (some 256) (T 2), none⟩,
            ⟨none, .store (some 256) (T 2) (T 17), none⟩,
            ⟨(some 3), .mv (.const (.bool false)), none⟩])
          .ret)
          .skip))
        (.reg [⟨(some 18), .mv (T 5), none⟩,
          ⟨(some 19), .iaddrA 256 none (T 2) (T 18), none⟩,
          ⟨none, .store none (T 19) (.const (.bool true)), none⟩]))))
      (.reg [⟨(some 10), .mv (T 4), none⟩,
        ⟨(some 11), .bin .add (T 10) (C (1)), none⟩,
        ⟨(some 4), .mv (T 11), none⟩]))))))
  (.seq (.reg [⟨(some 20), .load (some 256) (T 2), none⟩,
    ⟨none, .store (some 256) (T 2) (T 20), none⟩,
    ⟨(some 3), .mv (.const (.bool true)), none⟩])
  .ret)))
theorem e_strings_makeASCIISet : slimC Tryd.prog 21 (Tryd.f53.body.getD .skip) = s_strings_makeASCIISet := by kernel_rfl
theorem r_strings_makeASCIISet : slimRes Tryd.prog Tryd.f53 = some [.cell 2 (some 256), .tmp 3] := by kernel_rfl

/-- The slim code of (*strings.asciiSet).contains. -/
def s_strings_asciiSet_contains : SCode :=
  (.seq (.reg [⟨(some 4), .mv (.const (.bool false)), none⟩])
  (.seq (.reg [⟨(some 5), .mv (T 0), none⟩,
    ⟨(some 6), .mv (T 1), none⟩,
    ⟨(some 7), .nilc (T 5), none⟩,
    ⟨(some 8), .iaddrA 256 none (T 7) (T 6), none⟩,
    ⟨(some 9), .load none (T 8), none⟩,
    ⟨(some 4), .mv (T 9), none⟩])
  .ret))
theorem e_strings_asciiSet_contains : slimC Tryd.prog 10 (Tryd.f61.body.getD .skip) = s_strings_asciiSet_contains := by kernel_rfl
theorem r_strings_asciiSet_contains : slimRes Tryd.prog Tryd.f61 = some [.tmp 4] := by kernel_rfl

end Go.Proofs.YtdkghcfbhpemfaaDoor.Aw
