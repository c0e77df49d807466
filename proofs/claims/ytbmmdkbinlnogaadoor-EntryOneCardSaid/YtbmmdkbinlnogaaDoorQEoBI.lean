/- Parts of the proofs of Eo. -/
import Derived.Test.YtbmmdkbinlnogaaDoorQEoBD
import Derived.Test.YtbmmdkbinlnogaaDoorProg
import Derived.Test.YtbmmdkbinlnogaaDoorQEoBH
import Derived.Shelf.Small.Utf8
import Derived.Shelf.Small.Bits
import Derived.Shelf.Small.Strs
import Derived.Shelf.Strconv.Itoa0
import Derived.Shelf.Strings.Search1
import Derived.Shelf.Strings.Search2
import Derived.Shelf.Strings.Search3
import Derived.Shelf.LaysM
import Derived.Shelf.Strings.Shaped
import Derived.Shelf.Strings.Runes
import Derived.Shelf.Strings.IndexAny
import Derived.Shelf.Strings.AsciiSet
import Derived.Shelf.Unicode.DecodeSlow
import Derived.Test.YtbmmdkbinlnogaaDoorQEoBB
import Derived.Lib.Bytealg
namespace Go.Proofs.YtbmmdkbinlnogaaDoor.Aw
open Go
set_option maxRecDepth 100000
set_option linter.unusedSimpArgs false
abbrev n_bytealg_LastIndexByteString : Nat := 46
abbrev n_bytes_Clone : Nat := 43
abbrev n_drayagelaw07_EntryOne : Nat := 7
abbrev n_drayagelaw07_awake : Nat := 9
abbrev n_drayageref07_Find : Nat := 22
abbrev n_drayageref07_Light : Nat := 14
abbrev n_drayageref07_Same : Nat := 21
abbrev n_drayageref07_alike : Nat := 41
abbrev n_entry_Canon : Nat := 19
abbrev n_entry_Canon_1 : Nat := 38
abbrev n_entry_Check : Nat := 17
abbrev n_entry_CheckAll : Nat := 15
abbrev n_entry_Copy : Nat := 23
abbrev n_entry_Path : Nat := 12
abbrev n_entry_above : Nat := 52
abbrev n_entry_above_1 : Nat := 65
abbrev n_entry_ahead_add : Nat := 31
abbrev n_entry_ahead_check : Nat := 30
abbrev n_entry_ahead_isAboveOne : Nat := 51
abbrev n_entry_ahead_isUnderOther : Nat := 50
abbrev n_entry_fileOf : Nat := 59
abbrev n_entry_isOwner : Nat := 34
abbrev n_entry_isUpTo : Nat := 54
abbrev n_entry_numbersFit : Nat := 33
abbrev n_entry_pointsRight : Nat := 35
abbrev n_entry_regroup : Nat := 40
abbrev n_entry_rightsOf : Nat := 49
abbrev n_slices_Cloneapi_Entryapi_Entry : Nat := 42
abbrev n_slices_SortFuncapi_Entryapi_Entry : Nat := 37
abbrev n_strings_ContainsAny : Nat := 55
abbrev n_strings_Index : Nat := 64
abbrev n_strings_IndexAny : Nat := 66
abbrev n_strings_IndexByte : Nat := 27
abbrev n_strings_LastIndexByte : Nat := 25
abbrev n_strings_SplitSeq : Nat := 28
abbrev n_strings_splitSeq : Nat := 48
abbrev n_strings_splitSeq_1 : Nat := 62
abbrev n_utf8_DecodeRuneInString : Nat := 63
theorem mix : Tryd.prog.follows .mixedOrders = true := by kernel_rfl
def s_drayagelaw07_EntryOne : SCode :=
 (.seq (.reg [⟨(some 4), .mv (.const (.bool false)), none⟩])
 (.seq (.seq (.reg [⟨(some 15), .call true n_drayagelaw07_awake [], none⟩,
 ⟨(some 16), .un .not (T 15), none⟩])
 (.cond (T 16)
 (.seq (.reg [⟨(some 4), .mv (.const (.bool false)), none⟩])
 .ret)
 .skip))
 (.seq (.seq (.reg [⟨(some 17), .mv (T 0), none⟩,
 ⟨(some 18), .call true n_drayageref07_Light [(T 17), (C (60)), (C (5000))], none⟩,
 ⟨(some 19), .un .not (T 18), none⟩,
 ⟨(some 20), .mv (T 19), none⟩,
 ⟨(some 21), .mv (T 1), (some (20, false))⟩,
 ⟨(some 22), .len false (T 21), (some (20, false))⟩,
 ⟨(some 23), .bin .gtr (T 22) (C (100)), (some (20, false))⟩,
 ⟨(some 24), .pick (T 20) (.const (.bool true)) (T 23), none⟩])
 (.cond (T 24)
 (.seq (.reg [⟨(some 4), .mv (.const (.bool true)), none⟩])
 .ret)
 .skip))
 (.seq (.reg [⟨(some 26), .mv (T 0), none⟩,
 ⟨(some 27), .call true n_entry_Canon [(T 26)], none⟩,
 ⟨(some 25), .mv (T 27), none⟩,
 ⟨(some 28), .ext (T 25) 0, none⟩,
 ⟨(some 29), .ext (T 25) 1, none⟩,
 ⟨(some 5), .mv (T 28), none⟩,
 ⟨(some 6), .mv (T 29), none⟩])
 (.seq (.seq (.reg [⟨(some 30), .mv (T 6), none⟩,
 ⟨(some 31), .bin .neq (T 30) (C (0)), none⟩])
 (.cond (T 31)
 (.seq (.reg [⟨(some 32), .mv (T 5), none⟩,
 ⟨(some 33), .len false (T 32), none⟩,
 ⟨(some 34), .bin .eql (T 33) (C (0)), none⟩,
 ⟨(some 4), .mv (T 34), none⟩])
 .ret)
 .skip))
 (.seq (.reg [⟨(some 7), .mv (.const (.slice none 0 0)), none⟩])
 (.seq (.seq (.reg [⟨(some 8), .mv (C (0)), none⟩])
 (.block 0
 (.loop
 (.seq (.seq (.reg [⟨(some 35), .mv (T 8), none⟩,
 ⟨(some 36), .mv (T 1), none⟩,
 ⟨(some 37), .len false (T 36), none⟩,
 ⟨(some 38), .mv (T 0), none⟩,
 ⟨(some 39), .len false (T 38), none⟩,
 ⟨(some 40), .bin .add (T 37) (T 39), none⟩,
 ⟨(some 41), .bin .lss (T 35) (T 40), none⟩])
 (.cond (T 41)
 .skip
 (.exit 0)))
 (.seq (.block 1
 (.seq (.reg [⟨(some 44), .mv (T 8), none⟩,
 ⟨(some 45), .mv (T 1), none⟩,
 ⟨(some 46), .len false (T 45), none⟩,
 ⟨(some 47), .bin .sub (T 44) (T 46), none⟩,
 ⟨(some 9), .mv (T 47), none⟩])
 (.seq (.seq (.reg [⟨(some 48), .mv (T 8), none⟩,
 ⟨(some 49), .mv (T 1), none⟩,
 ⟨(some 50), .len false (T 49), none⟩,
 ⟨(some 51), .bin .lss (T 48) (T 50), none⟩])
 (.cond (T 51)
 (.reg [⟨(some 52), .mv (T 1), none⟩,
 ⟨(some 53), .mv (T 8), none⟩,
 ⟨(some 54), .iaddr none (T 52) (T 53), none⟩,
 ⟨(some 55), .load none (T 54), none⟩,
 ⟨(some 9), .mv (T 55), none⟩])
 .skip))
 (.seq (.seq (.reg [⟨(some 56), .mv (T 9), none⟩,
 ⟨(some 57), .bin .lss (T 56) (C (0)), none⟩,
 ⟨(some 58), .mv (T 57), none⟩,
 ⟨(some 59), .mv (T 9), (some (58, false))⟩,
 ⟨(some 60), .mv (T 0), (some (58, false))⟩,
 ⟨(some 61), .len false (T 60), (some (58, false))⟩,
 ⟨(some 62), .bin .geq (T 59) (T 61), (some (58, false))⟩,
 ⟨(some 63), .pick (T 58) (.const (.bool true)) (T 62), none⟩,
 ⟨(some 64), .mv (T 63), none⟩,
 ⟨(some 65), .mv (T 7), (some (64, false))⟩,
 ⟨(some 66), .mv (T 0), (some (64, false))⟩,
 ⟨(some 67), .mv (T 9), (some (64, false))⟩,
 ⟨(some 68), .iaddr (some 10) (T 66) (T 67), (some (64, false))⟩,
 ⟨(some 69), .faddr 0 (T 68), (some (64, false))⟩,
 ⟨(some 70), .load none (T 69), (some (64, false))⟩,
 ⟨(some 71), .call true n_drayageref07_Find [(T 65), (T 70)], (some (64, false))⟩,
 ⟨(some 72), .bin .geq (T 71) (C (0)), (some (64, false))⟩,
 ⟨(some 73), .pick (T 64) (.const (.bool true)) (T 72), none⟩,
 ⟨(some 74), .mv (T 73), none⟩,
 ⟨(some 75), .mv (T 0), (some (74, false))⟩,
 ⟨(some 76), .mv (T 9), (some (74, false))⟩,
 ⟨(some 77), .iaddr (some 10) (T 75) (T 76), (some (74, false))⟩,
 ⟨(some 78), .faddr 1 (T 77), (some (74, false))⟩,
 ⟨(some 79), .load none (T 78), (some (74, false))⟩,
 ⟨(some 80), .bin .eql (T 79) (C (4)), (some (74, false))⟩,
 ⟨(some 81), .mv (T 80), (some (74, false))⟩,
 ⟨(some 82), .mv (T 7), (some (81, true))⟩,
 ⟨(some 83), .mv (T 0), (some (81, true))⟩,
 ⟨(some 84), .mv (T 9), (some (81, true))⟩,
 ⟨(some 85), .iaddr (some 10) (T 83) (T 84), (some (81, true))⟩,
 ⟨(some 86), .faddr 8 (T 85), (some (81, true))⟩,
 ⟨(some 87), .load none (T 86), (some (81, true))⟩,
 ⟨(some 88), .call true n_drayageref07_Find [(T 82), (T 87)], (some (81, true))⟩,
 ⟨(some 89), .bin .lss (T 88) (C (0)), (some (81, true))⟩,
 ⟨(some 90), .pick (T 81) (T 89) (.const (.bool false)), (some (74, false))⟩,
 ⟨(some 91), .pick (T 74) (.const (.bool true)) (T 90), none⟩])
 (.cond (T 91)
 (.exit 1)
 .skip))
 (.reg [⟨(some 92), .mv (T 7), none⟩,
 ⟨(some 93), .mv (T 0), none⟩,
 ⟨(some 94), .mv (T 9), none⟩,
 ⟨(some 95), .iaddr (some 10) (T 93) (T 94), none⟩,
 ⟨(some 96), .load (some 10) (T 95), none⟩,
 ⟨(some 97), .bslice (some 10) [(T 96)], none⟩,
 ⟨(some 98), .app (some 10) 128 (T 92) (T 97), none⟩,
 ⟨(some 7), .mv (T 98), none⟩])))))
 (.reg [⟨(some 42), .mv (T 8), none⟩,
 ⟨(some 43), .bin .add (T 42) (C (1)), none⟩,
 ⟨(some 8), .mv (T 43), none⟩]))))))
 (.seq (.seq (.reg [⟨(some 99), .mv (T 7), none⟩,
 ⟨(some 100), .len false (T 99), none⟩,
 ⟨(some 101), .mv (T 0), none⟩,
 ⟨(some 102), .len false (T 101), none⟩,
 ⟨(some 103), .bin .neq (T 100) (T 102), none⟩])
 (.cond (T 103)
 (.seq (.reg [⟨(some 4), .mv (.const (.bool false)), none⟩])
 .ret)
 .skip))
 (.seq (.reg [⟨(some 105), .mv (T 7), none⟩,
 ⟨(some 106), .call true n_entry_Canon [(T 105)], none⟩,
 ⟨(some 104), .mv (T 106), none⟩,
 ⟨(some 107), .ext (T 104) 0, none⟩,
 ⟨(some 108), .ext (T 104) 1, none⟩,
 ⟨(some 10), .mv (T 107), none⟩,
 ⟨(some 11), .mv (T 108), none⟩])
 (.seq (.reg [⟨(some 110), .mv (T 5), none⟩,
 ⟨(some 111), .call true n_entry_Canon [(T 110)], none⟩,
 ⟨(some 109), .mv (T 111), none⟩,
 ⟨(some 112), .ext (T 109) 0, none⟩,
 ⟨(some 113), .ext (T 109) 1, none⟩,
 ⟨(some 12), .mv (T 112), none⟩,
 ⟨(some 13), .mv (T 113), none⟩])
 (.seq (.seq (.reg [⟨(some 114), .mv (T 11), none⟩,
 ⟨(some 115), .bin .neq (T 114) (C (0)), none⟩,
 ⟨(some 116), .mv (T 115), none⟩,
 ⟨(some 117), .mv (T 13), (some (116, false))⟩,
 ⟨(some 118), .bin .neq (T 117) (C (0)), (some (116, false))⟩,
 ⟨(some 119), .pick (T 116) (.const (.bool true)) (T 118), none⟩,
 ⟨(some 120), .mv (T 119), none⟩,
 ⟨(some 121), .mv (T 5), (some (120, false))⟩,
 ⟨(some 122), .mv (T 10), (some (120, false))⟩,
 ⟨(some 123), .call true n_drayageref07_Same [(T 121), (T 122)], (some (120, false))⟩,
 ⟨(some 124), .un .not (T 123), (some (120, false))⟩,
 ⟨(some 125), .pick (T 120) (.const (.bool true)) (T 124), none⟩,
 ⟨(some 126), .mv (T 125), none⟩,
 ⟨(some 127), .mv (T 5), (some (126, false))⟩,
 ⟨(some 128), .mv (T 12), (some (126, false))⟩,
 ⟨(some 129), .call true n_drayageref07_Same [(T 127), (T 128)], (some (126, false))⟩,
 ⟨(some 130), .un .not (T 129), (some (126, false))⟩,
 ⟨(some 131), .pick (T 126) (.const (.bool true)) (T 130), none⟩,
 ⟨(some 132), .mv (T 131), none⟩,
 ⟨(some 133), .mv (T 5), (some (132, false))⟩,
 ⟨(some 134), .len false (T 133), (some (132, false))⟩,
 ⟨(some 135), .mv (T 0), (some (132, false))⟩,
 ⟨(some 136), .len false (T 135), (some (132, false))⟩,
 ⟨(some 137), .bin .neq (T 134) (T 136), (some (132, false))⟩,
 ⟨(some 138), .pick (T 132) (.const (.bool true)) (T 137), none⟩])
 (.cond (T 138)
 (.seq (.reg [⟨(some 4), .mv (.const (.bool false)), none⟩])
 .ret)
 .skip))
 (.seq (.seq (.reg [⟨(some 14), .mv (C (0)), none⟩])
 (.block 2
 (.loop
 (.seq (.seq (.reg [⟨(some 139), .mv (T 14), none⟩,
 ⟨(some 140), .mv (T 0), none⟩,
 ⟨(some 141), .len false (T 140), none⟩,
 ⟨(some 142), .bin .lss (T 139) (T 141), none⟩])
 (.cond (T 142)
 .skip
 (.exit 2)))
 (.seq (.block 3
 (.seq (.reg [⟨(some 145), .mv (T 5), none⟩,
 ⟨(some 146), .mv (T 0), none⟩,
 ⟨(some 147), .mv (T 14), none⟩,
 ⟨(some 148), .iaddr (some 10) (T 146) (T 147), none⟩,
 ⟨(some 149), .faddr 0 (T 148), none⟩,
 ⟨(some 150), .load none (T 149), none⟩,
 ⟨(some 151), .call true n_drayageref07_Find [(T 145), (T 150)], none⟩,
 ⟨(some 152), .bin .lss (T 151) (C (0)), none⟩,
 ⟨(some 153), .mv (T 152), none⟩,
 ⟨(some 154), .mv (T 14), (some (153, false))⟩,
 ⟨(some 155), .bin .gtr (T 154) (C (0)), (some (153, false))⟩,
 ⟨(some 156), .mv (T 155), (some (153, false))⟩,
 ⟨(some 157), .mv (T 5), (some (156, true))⟩,
 ⟨(some 158), .mv (T 14), (some (156, true))⟩,
 ⟨(some 159), .bin .sub (T 158) (C (1)), (some (156, true))⟩,
 ⟨(some 160), .iaddr (some 10) (T 157) (T 159), (some (156, true))⟩,
 ⟨(some 161), .faddr 0 (T 160), (some (156, true))⟩,
 ⟨(some 162), .load none (T 161), (some (156, true))⟩,
 ⟨(some 163), .mv (T 5), (some (156, true))⟩,
 ⟨(some 164), .mv (T 14), (some (156, true))⟩,
 ⟨(some 165), .iaddr (some 10) (T 163) (T 164), (some (156, true))⟩,
 ⟨(some 166), .faddr 0 (T 165), (some (156, true))⟩,
 ⟨(some 167), .load none (T 166), (some (156, true))⟩,
 ⟨(some 168), .bin .geq (T 162) (T 167), (some (156, true))⟩,
 ⟨(some 169), .pick (T 156) (T 168) (.const (.bool false)), (some (153, false))⟩,
 ⟨(some 170), .pick (T 153) (.const (.bool true)) (T 169), none⟩])
 (.cond (T 170)
 (.seq (.reg [⟨(some 4), .mv (.const (.bool false)), none⟩])
 .ret)
 .skip)))
 (.reg [⟨(some 143), .mv (T 14), none⟩,
 ⟨(some 144), .bin .add (T 143) (C (1)), none⟩,
 ⟨(some 14), .mv (T 144), none⟩]))))))
 (.seq (.reg [⟨(some 4), .mv (.const (.bool true)), none⟩])
 .ret)))))))))))))
theorem e_drayagelaw07_EntryOne : slimC Tryd.prog 171 (Tryd.f7.body.getD .skip) = s_drayagelaw07_EntryOne := by kernel_rfl
theorem r_drayagelaw07_EntryOne : slimRes Tryd.prog Tryd.f7 = some [.tmp 4] := by kernel_rfl
def s_drayagelaw07_awake : SCode :=
 (.seq (.reg [⟨(some 0), .mv (.const (.bool false)), none⟩])
 (.seq (.reg [⟨(some 6), .bsl none [(.const (.int .u8 (120)))], none⟩,
 ⟨(some 7), .strz (T 6), none⟩,
 ⟨(some 8), .build [(.string ⟨#[]⟩), (.int .i64 (0)), (.int .i64 (0)), (.int .i64 (0)), (.int .i64 (0)), (.string ⟨#[]⟩), (.string ⟨#[]⟩), (.int .i64 (0)), (.string ⟨#[]⟩), (.slice none 0 0)] [(0, 1, (.const (.string ⟨#[98]⟩))), (1, 1, (C (1))), (9, 1, (T 7))], none⟩,
 ⟨(some 9), .build [(.string ⟨#[]⟩), (.int .i64 (0)), (.int .i64 (0)), (.int .i64 (0)), (.int .i64 (0)), (.string ⟨#[]⟩), (.string ⟨#[]⟩), (.int .i64 (0)), (.string ⟨#[]⟩), (.slice none 0 0)] [(0, 1, (.const (.string ⟨#[97]⟩))), (1, 1, (C (4))), (8, 1, (.const (.string ⟨#[98]⟩)))], none⟩,
 ⟨(some 10), .bsl (some 10) [(T 8), (T 9)], none⟩,
 ⟨(some 11), .call true n_entry_Canon [(T 10)], none⟩,
 ⟨(some 5), .mv (T 11), none⟩,
 ⟨(some 12), .ext (T 5) 0, none⟩,
 ⟨(some 13), .ext (T 5) 1, none⟩,
 ⟨(some 1), .mv (T 12), none⟩,
 ⟨(some 2), .mv (T 13), none⟩])
 (.seq (.reg [⟨(some 15), .build [(.string ⟨#[]⟩), (.int .i64 (0)), (.int .i64 (0)), (.int .i64 (0)), (.int .i64 (0)), (.string ⟨#[]⟩), (.string ⟨#[]⟩), (.int .i64 (0)), (.string ⟨#[]⟩), (.slice none 0 0)] [(0, 1, (.const (.string ⟨#[97]⟩))), (1, 1, (C (1)))], none⟩,
 ⟨(some 16), .build [(.string ⟨#[]⟩), (.int .i64 (0)), (.int .i64 (0)), (.int .i64 (0)), (.int .i64 (0)), (.string ⟨#[]⟩), (.string ⟨#[]⟩), (.int .i64 (0)), (.string ⟨#[]⟩), (.slice none 0 0)] [(0, 1, (.const (.string ⟨#[97, 47, 98]⟩))), (1, 1, (C (1)))], none⟩,
 ⟨(some 17), .bsl (some 10) [(T 15), (T 16)], none⟩,
 ⟨(some 18), .call true n_entry_CheckAll [(T 17)], none⟩,
 ⟨(some 14), .mv (T 18), none⟩,
 ⟨(some 19), .ext (T 14) 0, none⟩,
 ⟨(some 20), .ext (T 14) 1, none⟩,
 ⟨(some 3), .mv (T 19), none⟩,
 ⟨(some 4), .mv (T 20), none⟩])
 (.seq (.reg [⟨(some 21), .mv (T 2), none⟩,
 ⟨(some 22), .bin .eql (T 21) (C (0)), none⟩,
 ⟨(some 23), .mv (T 22), none⟩,
 ⟨(some 24), .mv (T 1), (some (23, true))⟩,
 ⟨(some 25), .len false (T 24), (some (23, true))⟩,
 ⟨(some 26), .bin .eql (T 25) (C (2)), (some (23, true))⟩,
 ⟨(some 27), .pick (T 23) (T 26) (.const (.bool false)), none⟩,
 ⟨(some 28), .mv (T 27), none⟩,
 ⟨(some 29), .mv (T 1), (some (28, true))⟩,
 ⟨(some 30), .iaddr (some 10) (T 29) (C (0)), (some (28, true))⟩,
 ⟨(some 31), .faddr 0 (T 30), (some (28, true))⟩,
 ⟨(some 32), .load none (T 31), (some (28, true))⟩,
 ⟨(some 33), .bin .eql (T 32) (.const (.string ⟨#[97]⟩)), (some (28, true))⟩,
 ⟨(some 34), .pick (T 28) (T 33) (.const (.bool false)), none⟩,
 ⟨(some 35), .mv (T 34), none⟩,
 ⟨(some 36), .mv (T 1), (some (35, true))⟩,
 ⟨(some 37), .iaddr (some 10) (T 36) (C (0)), (some (35, true))⟩,
 ⟨(some 38), .faddr 1 (T 37), (some (35, true))⟩,
 ⟨(some 39), .load none (T 38), (some (35, true))⟩,
 ⟨(some 40), .bin .eql (T 39) (C (1)), (some (35, true))⟩,
 ⟨(some 41), .pick (T 35) (T 40) (.const (.bool false)), none⟩,
 ⟨(some 42), .mv (T 41), none⟩,
 ⟨(some 43), .mv (T 1), (some (42, true))⟩,
 ⟨(some 44), .iaddr (some 10) (T 43) (C (0)), (some (42, true))⟩,
 ⟨(some 45), .faddr 9 (T 44), (some (42, true))⟩,
 ⟨(some 46), .load none (T 45), (some (42, true))⟩,
 ⟨(some 47), .b2s (T 46), (some (42, true))⟩,
 ⟨(some 48), .bin .eql (T 47) (.const (.string ⟨#[120]⟩)), (some (42, true))⟩,
 ⟨(some 49), .pick (T 42) (T 48) (.const (.bool false)), none⟩,
 ⟨(some 50), .mv (T 49), none⟩,
 ⟨(some 51), .mv (T 1), (some (50, true))⟩,
 ⟨(some 52), .iaddr (some 10) (T 51) (C (1)), (some (50, true))⟩,
 ⟨(some 53), .faddr 1 (T 52), (some (50, true))⟩,
 ⟨(some 54), .load none (T 53), (some (50, true))⟩,
 ⟨(some 55), .bin .eql (T 54) (C (4)), (some (50, true))⟩,
 ⟨(some 56), .pick (T 50) (T 55) (.const (.bool false)), none⟩,
 ⟨(some 57), .mv (T 56), none⟩,
 ⟨(some 58), .mv (T 1), (some (57, true))⟩,
 ⟨(some 59), .iaddr (some 10) (T 58) (C (1)), (some (57, true))⟩,
 ⟨(some 60), .faddr 8 (T 59), (some (57, true))⟩,
 ⟨(some 61), .load none (T 60), (some (57, true))⟩,
 ⟨(some 62), .bin .eql (T 61) (.const (.string ⟨#[97]⟩)), (some (57, true))⟩,
 ⟨(some 63), .pick (T 57) (T 62) (.const (.bool false)), none⟩,
 ⟨(some 64), .mv (T 63), none⟩,
 ⟨(some 65), .mv (T 3), (some (64, true))⟩,
 ⟨(some 66), .bin .eql (T 65) (C (1)), (some (64, true))⟩,
 ⟨(some 67), .pick (T 64) (T 66) (.const (.bool false)), none⟩,
 ⟨(some 68), .mv (T 67), none⟩,
 ⟨(some 69), .mv (T 4), (some (68, true))⟩,
 ⟨(some 70), .bin .eql (T 69) (C (9)), (some (68, true))⟩,
 ⟨(some 71), .pick (T 68) (T 70) (.const (.bool false)), none⟩,
 ⟨(some 0), .mv (T 71), none⟩])
 .ret))))
theorem e_drayagelaw07_awake : slimC Tryd.prog 72 (Tryd.f9.body.getD .skip) = s_drayagelaw07_awake := by kernel_rfl
theorem r_drayagelaw07_awake : slimRes Tryd.prog Tryd.f9 = some [.tmp 0] := by kernel_rfl
def s_entry_Path : SCode :=
 (.seq (.reg [⟨(some 2), .alloc [(.bool false)], none⟩])
 (.seq (.seq (.reg [⟨(some 4), .mv (T 0), none⟩,
 ⟨(some 5), .len true (T 4), none⟩,
 ⟨(some 6), .bin .gtr (T 5) (C (200)), none⟩,
 ⟨(some 7), .mv (T 6), none⟩,
 ⟨(some 8), .mv (T 0), (some (7, false))⟩,
 ⟨(some 9), .call true n_strings_IndexByte [(T 8), (.const (.int .u8 (0)))], (some (7, false))⟩,
 ⟨(some 10), .bin .geq (T 9) (C (0)), (some (7, false))⟩,
 ⟨(some 11), .pick (T 7) (.const (.bool true)) (T 10), none⟩])
 (.cond (T 11)
 (.seq (.reg [⟨none, .store none (T 2) (.const (.bool false)), none⟩])
 .ret)
 .skip))
 (.seq (.seq (.reg [⟨(some 12), .mv (T 0), none⟩,
 ⟨(some 13), .call true n_strings_SplitSeq [(T 12), (.const (.string ⟨#[47]⟩))], none⟩])
 (.block 0
 (.rng true (T 13) [14]
 (.reg [⟨(some 3), .mv (T 14), none⟩])
 (.block 1
 (.seq (.reg [⟨(some 15), .mv (T 3), none⟩,
 ⟨(some 16), .bin .eql (T 15) (.const (.string ⟨#[]⟩)), none⟩,
 ⟨(some 17), .mv (T 16), none⟩,
 ⟨(some 18), .mv (T 3), (some (17, false))⟩,
 ⟨(some 19), .bin .eql (T 18) (.const (.string ⟨#[46]⟩)), (some (17, false))⟩,
 ⟨(some 20), .pick (T 17) (.const (.bool true)) (T 19), none⟩,
 ⟨(some 21), .mv (T 20), none⟩,
 ⟨(some 22), .mv (T 3), (some (21, false))⟩,
 ⟨(some 23), .bin .eql (T 22) (.const (.string ⟨#[46, 46]⟩)), (some (21, false))⟩,
 ⟨(some 24), .pick (T 21) (.const (.bool true)) (T 23), none⟩])
 (.cond (T 24)
 (.seq (.reg [⟨none, .store none (T 2) (.const (.bool false)), none⟩])
 .ret)
 .skip))))))
 (.seq (.reg [⟨none, .store none (T 2) (.const (.bool true)), none⟩])
 .ret))))
theorem e_entry_Path : slimC Tryd.prog 25 (Tryd.f12.body.getD .skip) = s_entry_Path := by kernel_rfl
theorem r_entry_Path : slimRes Tryd.prog Tryd.f12 = some [.cell 2 none] := by kernel_rfl
def s_drayageref07_Light : SCode :=
 (.seq (.reg [⟨(some 6), .mv (.const (.bool false)), none⟩])
 (.seq (.seq (.reg [⟨(some 9), .mv (T 0), none⟩,
 ⟨(some 10), .len false (T 9), none⟩,
 ⟨(some 11), .mv (T 1), none⟩,
 ⟨(some 12), .bin .gtr (T 10) (T 11), none⟩])
 (.cond (T 12)
 (.seq (.reg [⟨(some 6), .mv (.const (.bool false)), none⟩])
 .ret)
 .skip))
 (.seq (.reg [⟨(some 7), .mv (C (0)), none⟩])
 (.seq (.seq (.reg [⟨(some 8), .mv (C (0)), none⟩])
 (.block 0
 (.loop
 (.seq (.seq (.reg [⟨(some 13), .mv (T 8), none⟩,
 ⟨(some 14), .mv (T 0), none⟩,
 ⟨(some 15), .len false (T 14), none⟩,
 ⟨(some 16), .bin .lss (T 13) (T 15), none⟩,
 ⟨(some 17), .mv (T 16), none⟩,
 ⟨(some 18), .mv (T 7), (some (17, true))⟩,
 ⟨(some 19), .mv (T 2), (some (17, true))⟩,
 ⟨(some 20), .bin .leq (T 18) (T 19), (some (17, true))⟩,
 ⟨(some 21), .pick (T 17) (T 20) (.const (.bool false)), none⟩])
 (.cond (T 21)
 .skip
 (.exit 0)))
 (.seq (.block 1
 (.reg [⟨(some 24), .mv (T 7), none⟩,
 ⟨(some 25), .mv (T 0), none⟩,
 ⟨(some 26), .mv (T 8), none⟩,
 ⟨(some 27), .iaddr (some 10) (T 25) (T 26), none⟩,
 ⟨(some 28), .faddr 0 (T 27), none⟩,
 ⟨(some 29), .load none (T 28), none⟩,
 ⟨(some 30), .len true (T 29), none⟩,
 ⟨(some 31), .mv (T 2), none⟩,
 ⟨(some 32), .bin .add (T 31) (C (1)), none⟩,
 ⟨(some 33), .mm false (T 30) [(T 32)], none⟩,
 ⟨(some 34), .bin .add (T 24) (T 33), none⟩,
 ⟨(some 35), .mv (T 0), none⟩,
 ⟨(some 36), .mv (T 8), none⟩,
 ⟨(some 37), .iaddr (some 10) (T 35) (T 36), none⟩,
 ⟨(some 38), .faddr 8 (T 37), none⟩,
 ⟨(some 39), .load none (T 38), none⟩,
 ⟨(some 40), .len true (T 39), none⟩,
 ⟨(some 41), .mv (T 2), none⟩,
 ⟨(some 42), .bin .add (T 41) (C (1)), none⟩,
 ⟨(some 43), .mm false (T 40) [(T 42)], none⟩,
 ⟨(some 44), .bin .add (T 34) (T 43), none⟩,
 ⟨(some 45), .mv (T 0), none⟩,
 ⟨(some 46), .mv (T 8), none⟩,
 ⟨(some 47), .iaddr (some 10) (T 45) (T 46), none⟩,
 ⟨(some 48), .faddr 5 (T 47), none⟩,
 ⟨(some 49), .load none (T 48), none⟩,
 ⟨(some 50), .len true (T 49), none⟩,
 ⟨(some 51), .mv (T 2), none⟩,
 ⟨(some 52), .bin .add (T 51) (C (1)), none⟩,
 ⟨(some 53), .mm false (T 50) [(T 52)], none⟩,
 ⟨(some 54), .bin .add (T 44) (T 53), none⟩,
 ⟨(some 55), .mv (T 0), none⟩,
 ⟨(some 56), .mv (T 8), none⟩,
 ⟨(some 57), .iaddr (some 10) (T 55) (T 56), none⟩,
 ⟨(some 58), .faddr 6 (T 57), none⟩,
 ⟨(some 59), .load none (T 58), none⟩,
 ⟨(some 60), .len true (T 59), none⟩,
 ⟨(some 61), .mv (T 2), none⟩,
 ⟨(some 62), .bin .add (T 61) (C (1)), none⟩,
 ⟨(some 63), .mm false (T 60) [(T 62)], none⟩,
 ⟨(some 64), .bin .add (T 54) (T 63), none⟩,
 ⟨(some 65), .mv (T 0), none⟩,
 ⟨(some 66), .mv (T 8), none⟩,
 ⟨(some 67), .iaddr (some 10) (T 65) (T 66), none⟩,
 ⟨(some 68), .faddr 9 (T 67), none⟩,
 ⟨(some 69), .load none (T 68), none⟩,
 ⟨(some 70), .len false (T 69), none⟩,
 ⟨(some 71), .mv (T 2), none⟩,
 ⟨(some 72), .bin .add (T 71) (C (1)), none⟩,
 ⟨(some 73), .mm false (T 70) [(T 72)], none⟩,
 ⟨(some 74), .bin .add (T 64) (T 73), none⟩,
 ⟨(some 7), .mv (T 74), none⟩]))
 (.reg [⟨(some 22), .mv (T 8), none⟩,
 ⟨(some 23), .bin .add (T 22) (C (1)), none⟩,
 ⟨(some 8), .mv (T 23), none⟩]))))))
 (.seq (.reg [⟨(some 75), .mv (T 7), none⟩,
 ⟨(some 76), .mv (T 2), none⟩,
 ⟨(some 77), .bin .leq (T 75) (T 76), none⟩,
 ⟨(some 6), .mv (T 77), none⟩])
 .ret)))))
theorem e_drayageref07_Light : slimC Tryd.prog 78 (Tryd.f14.body.getD .skip) = s_drayageref07_Light := by kernel_rfl
theorem r_drayageref07_Light : slimRes Tryd.prog Tryd.f14 = some [.tmp 6] := by kernel_rfl
def s_entry_CheckAll : SCode :=
 (.seq (.reg [⟨(some 2), .mv (C (0)), none⟩,
 ⟨(some 3), .mv (C (0)), none⟩])
 (.seq (.seq (.reg [⟨(some 8), .mv (T 0), none⟩,
 ⟨(some 9), .len false (T 8), none⟩,
 ⟨(some 10), .bin .gtr (T 9) (C (4096)), none⟩])
 (.cond (T 10)
 (.seq (.reg [⟨(some 2), .mv (C (4096)), none⟩,
 ⟨(some 3), .mv (C (4)), none⟩])
 .ret)
 .skip))
 (.seq (.reg [⟨(some 11), .mkm, none⟩,
 ⟨(some 12), .mkm, none⟩,
 ⟨(some 13), .build [(.map none), (.map none)] [(0, 1, (T 11)), (1, 1, (T 12))], none⟩,
 ⟨(some 4), .alloc [(.map none), (.map none)], none⟩,
 ⟨none, .store (some 2) (T 4) (T 13), none⟩])
 (.seq (.seq (.reg [⟨(some 14), .mv (T 0), none⟩,
 ⟨(some 15), .len false (T 14), none⟩,
 ⟨(some 16), .mv (C (0)), none⟩])
 (.block 0
 (.loop
 (.seq (.reg [⟨(some 17), .bin .lss (T 16) (T 15), none⟩])
 (.seq (.cond (T 17)
 .skip
 (.exit 0))
 (.seq (.block 1
 (.seq (.reg [⟨(some 18), .mv (T 16), none⟩,
 ⟨(some 19), .iaddr (some 10) (T 14) (T 16), none⟩,
 ⟨(some 20), .load (some 10) (T 19), none⟩,
 ⟨(some 6), .alloc [(.string ⟨#[]⟩), (.int .i64 (0)), (.int .i64 (0)), (.int .i64 (0)), (.int .i64 (0)), (.string ⟨#[]⟩), (.string ⟨#[]⟩), (.int .i64 (0)), (.string ⟨#[]⟩), (.slice none 0 0)], none⟩,
 ⟨(some 5), .mv (T 18), none⟩,
 ⟨none, .store (some 10) (T 6) (T 20), none⟩])
 (.seq (.seq (.reg [⟨(some 21), .load (some 2) (T 4), none⟩,
 ⟨(some 22), .load (some 10) (T 6), none⟩,
 ⟨(some 23), .call true n_entry_ahead_check [(T 21), (T 22)], none⟩,
 ⟨(some 7), .mv (T 23), none⟩])
 (.seq (.reg [⟨(some 24), .mv (T 7), none⟩,
 ⟨(some 25), .bin .neq (T 24) (C (0)), none⟩])
 (.cond (T 25)
 (.seq (.reg [⟨(some 26), .mv (T 5), none⟩,
 ⟨(some 27), .mv (T 7), none⟩,
 ⟨(some 2), .mv (T 26), none⟩,
 ⟨(some 3), .mv (T 27), none⟩])
 .ret)
 .skip)))
 (.reg [⟨(some 28), .load (some 2) (T 4), none⟩,
 ⟨(some 29), .load (some 10) (T 6), none⟩,
 ⟨(some 30), .call true n_entry_ahead_add [(T 28), (T 29)], none⟩]))))
 (.reg [⟨(some 31), .bin .add (T 16) (C (1)), none⟩,
 ⟨(some 16), .mv (T 31), none⟩])))))))
 (.seq (.reg [⟨(some 2), .mv (C (0)), none⟩,
 ⟨(some 3), .mv (C (0)), none⟩])
 .ret)))))
theorem e_entry_CheckAll : slimC Tryd.prog 32 (Tryd.f15.body.getD .skip) = s_entry_CheckAll := by kernel_rfl
theorem r_entry_CheckAll : slimRes Tryd.prog Tryd.f15 = some [.tmp 2, .tmp 3] := by kernel_rfl
def s_entry_Check : SCode :=
 (.seq (.reg [⟨(some 1), .box (T 0), none⟩,
 ⟨(some 2), .mv (C (0)), none⟩])
 (.seq (.block 0
 (.seq (.reg [⟨(some 4), .faddr 0 (T 1), none⟩,
 ⟨(some 5), .load none (T 4), none⟩,
 ⟨(some 6), .call true n_entry_Path [(T 5)], none⟩,
 ⟨(some 7), .un .not (T 6), none⟩,
 ⟨(some 3), .mv (T 7), none⟩])
 (.cond (T 3)
 (.seq (.reg [⟨(some 2), .mv (C (10)), none⟩])
 .ret)
 (.seq (.reg [⟨(some 9), .faddr 1 (T 1), none⟩,
 ⟨(some 10), .load none (T 9), none⟩,
 ⟨(some 11), .bin .lss (T 10) (C (1)), none⟩,
 ⟨(some 12), .mv (T 11), none⟩,
 ⟨(some 13), .faddr 1 (T 1), (some (12, false))⟩,
 ⟨(some 14), .load none (T 13), (some (12, false))⟩,
 ⟨(some 15), .bin .gtr (T 14) (C (4)), (some (12, false))⟩,
 ⟨(some 16), .pick (T 12) (.const (.bool true)) (T 15), none⟩,
 ⟨(some 8), .mv (T 16), none⟩])
 (.cond (T 8)
 (.seq (.reg [⟨(some 2), .mv (C (9)), none⟩])
 .ret)
 (.seq (.reg [⟨(some 18), .load (some 10) (T 1), none⟩,
 ⟨(some 19), .call true n_entry_numbersFit [(T 18)], none⟩,
 ⟨(some 20), .un .not (T 19), none⟩,
 ⟨(some 17), .mv (T 20), none⟩])
 (.cond (T 17)
 (.seq (.reg [⟨(some 2), .mv (C (1)), none⟩])
 .ret)
 (.seq (.reg [⟨(some 22), .faddr 5 (T 1), none⟩,
 ⟨(some 23), .load none (T 22), none⟩,
 ⟨(some 24), .call true n_entry_isOwner [(T 23)], none⟩,
 ⟨(some 25), .un .not (T 24), none⟩,
 ⟨(some 26), .mv (T 25), none⟩,
 ⟨(some 27), .faddr 6 (T 1), (some (26, false))⟩,
 ⟨(some 28), .load none (T 27), (some (26, false))⟩,
 ⟨(some 29), .call true n_entry_isOwner [(T 28)], (some (26, false))⟩,
 ⟨(some 30), .un .not (T 29), (some (26, false))⟩,
 ⟨(some 31), .pick (T 26) (.const (.bool true)) (T 30), none⟩,
 ⟨(some 21), .mv (T 31), none⟩])
 (.cond (T 21)
 (.seq (.reg [⟨(some 2), .mv (C (10)), none⟩])
 .ret)
 (.seq (.reg [⟨(some 33), .load (some 10) (T 1), none⟩,
 ⟨(some 34), .call true n_entry_pointsRight [(T 33)], none⟩,
 ⟨(some 35), .un .not (T 34), none⟩,
 ⟨(some 32), .mv (T 35), none⟩])
 (.cond (T 32)
 (.seq (.reg [⟨(some 2), .mv (C (10)), none⟩])
 .ret)
 (.seq (.reg [⟨(some 37), .faddr 1 (T 1), none⟩,
 ⟨(some 38), .load none (T 37), none⟩,
 ⟨(some 39), .bin .neq (T 38) (C (1)), none⟩,
 ⟨(some 40), .mv (T 39), none⟩,
 ⟨(some 41), .faddr 9 (T 1), (some (40, true))⟩,
 ⟨(some 42), .load none (T 41), (some (40, true))⟩,
 ⟨(some 43), .len false (T 42), (some (40, true))⟩,
 ⟨(some 44), .bin .gtr (T 43) (C (0)), (some (40, true))⟩,
 ⟨(some 45), .pick (T 40) (T 44) (.const (.bool false)), none⟩,
 ⟨(some 36), .mv (T 45), none⟩])
 (.cond (T 36)
 (.seq (.reg [⟨(some 2), .mv (C (1)), none⟩])
 .ret)
 (.seq (.reg [⟨(some 47), .faddr 1 (T 1), none⟩,
 ⟨(some 48), .load none (T 47), none⟩,
 ⟨(some 49), .bin .neq (T 48) (C (3)), none⟩,
 ⟨(some 50), .mv (T 49), none⟩,
 ⟨(some 51), .faddr 1 (T 1), (some (50, true))⟩,
 ⟨(some 52), .load none (T 51), (some (50, true))⟩,
 ⟨(some 53), .bin .neq (T 52) (C (4)), (some (50, true))⟩,
 ⟨(some 54), .pick (T 50) (T 53) (.const (.bool false)), none⟩,
 ⟨(some 55), .mv (T 54), none⟩,
 ⟨(some 56), .faddr 8 (T 1), (some (55, true))⟩,
 ⟨(some 57), .load none (T 56), (some (55, true))⟩,
 ⟨(some 58), .bin .neq (T 57) (.const (.string ⟨#[]⟩)), (some (55, true))⟩,
 ⟨(some 59), .pick (T 55) (T 58) (.const (.bool false)), none⟩,
 ⟨(some 46), .mv (T 59), none⟩])
 (.cond (T 46)
 (.seq (.reg [⟨(some 2), .mv (C (1)), none⟩])
 .ret)
 (.seq (.reg [⟨(some 61), .faddr 9 (T 1), none⟩,
 ⟨(some 62), .load none (T 61), none⟩,
 ⟨(some 63), .len false (T 62), none⟩,
 ⟨(some 64), .bin .gtr (T 63) (C (1048576)), none⟩,
 ⟨(some 60), .mv (T 64), none⟩])
 (.cond (T 60)
 (.seq (.reg [⟨(some 2), .mv (C (4)), none⟩])
 .ret)
 .skip)))))))))))))))))
 (.seq (.reg [⟨(some 2), .mv (C (0)), none⟩])
 .ret)))
theorem e_entry_Check : slimC Tryd.prog 65 (Tryd.f17.body.getD .skip) = s_entry_Check := by kernel_rfl
theorem r_entry_Check : slimRes Tryd.prog Tryd.f17 = some [.tmp 2] := by kernel_rfl
def s_entry_Canon : SCode :=
 (.seq (.reg [⟨(some 2), .mv (.const (.slice none 0 0)), none⟩,
 ⟨(some 3), .mv (C (0)), none⟩])
 (.seq (.seq (.reg [⟨(some 8), .mv (T 0), none⟩,
 ⟨(some 9), .call true n_entry_CheckAll [(T 8)], none⟩,
 ⟨(some 7), .mv (T 9), none⟩,
 ⟨(some 10), .ext (T 7) 0, none⟩,
 ⟨(some 11), .ext (T 7) 1, none⟩,
 ⟨(some 4), .mv (T 10), none⟩,
 ⟨(some 5), .mv (T 11), none⟩])
 (.seq (.reg [⟨(some 12), .mv (T 5), none⟩,
 ⟨(some 13), .bin .neq (T 12) (C (0)), none⟩])
 (.cond (T 13)
 (.seq (.reg [⟨(some 14), .mv (T 5), none⟩,
 ⟨(some 2), .mv (.const (.slice none 0 0)), none⟩,
 ⟨(some 3), .mv (T 14), none⟩])
 .ret)
 .skip)))
 (.seq (.reg [⟨(some 15), .mv (T 0), none⟩,
 ⟨(some 16), .call true n_entry_Copy [(T 15)], none⟩,
 ⟨(some 6), .mv (T 16), none⟩])
 (.seq (.reg [⟨(some 17), .mv (T 6), none⟩,
 ⟨(some 18), .call true n_slices_SortFuncapi_Entryapi_Entry [(T 17), (.func n_entry_Canon_1)], none⟩])
 (.seq (.reg [⟨(some 19), .mv (T 6), none⟩,
 ⟨(some 20), .call true n_entry_regroup [(T 19)], none⟩])
 (.seq (.reg [⟨(some 21), .mv (T 6), none⟩,
 ⟨(some 2), .mv (T 21), none⟩,
 ⟨(some 3), .mv (C (0)), none⟩])
 .ret))))))
theorem e_entry_Canon : slimC Tryd.prog 22 (Tryd.f19.body.getD .skip) = s_entry_Canon := by kernel_rfl
theorem r_entry_Canon : slimRes Tryd.prog Tryd.f19 = some [.tmp 2, .tmp 3] := by kernel_rfl
def s_drayageref07_Same : SCode :=
 (.seq (.reg [⟨(some 4), .mv (.const (.bool false)), none⟩])
 (.seq (.seq (.reg [⟨(some 6), .mv (T 0), none⟩,
 ⟨(some 7), .len false (T 6), none⟩,
 ⟨(some 8), .mv (T 1), none⟩,
 ⟨(some 9), .len false (T 8), none⟩,
 ⟨(some 10), .bin .neq (T 7) (T 9), none⟩])
 (.cond (T 10)
 (.seq (.reg [⟨(some 4), .mv (.const (.bool false)), none⟩])
 .ret)
 .skip))
 (.seq (.seq (.reg [⟨(some 5), .mv (C (0)), none⟩])
 (.block 0
 (.loop
 (.seq (.seq (.reg [⟨(some 11), .mv (T 5), none⟩,
 ⟨(some 12), .mv (T 0), none⟩,
 ⟨(some 13), .len false (T 12), none⟩,
 ⟨(some 14), .bin .lss (T 11) (T 13), none⟩])
 (.cond (T 14)
 .skip
 (.exit 0)))
 (.seq (.block 1
 (.seq (.reg [⟨(some 17), .mv (T 0), none⟩,
 ⟨(some 18), .mv (T 5), none⟩,
 ⟨(some 19), .iaddr (some 10) (T 17) (T 18), none⟩,
 ⟨(some 20), .faddr 0 (T 19), none⟩,
 ⟨(some 21), .load none (T 20), none⟩,
 ⟨(some 22), .mv (T 1), none⟩,
 ⟨(some 23), .mv (T 5), none⟩,
 ⟨(some 24), .iaddr (some 10) (T 22) (T 23), none⟩,
 ⟨(some 25), .faddr 0 (T 24), none⟩,
 ⟨(some 26), .load none (T 25), none⟩,
 ⟨(some 27), .bin .neq (T 21) (T 26), none⟩,
 ⟨(some 28), .mv (T 27), none⟩,
 ⟨(some 29), .mv (T 0), (some (28, false))⟩,
 ⟨(some 30), .mv (T 5), (some (28, false))⟩,
 ⟨(some 31), .iaddr (some 10) (T 29) (T 30), (some (28, false))⟩,
 ⟨(some 32), .faddr 1 (T 31), (some (28, false))⟩,
 ⟨(some 33), .load none (T 32), (some (28, false))⟩,
 ⟨(some 34), .mv (T 1), (some (28, false))⟩,
 ⟨(some 35), .mv (T 5), (some (28, false))⟩,
 ⟨(some 36), .iaddr (some 10) (T 34) (T 35), (some (28, false))⟩,
 ⟨(some 37), .faddr 1 (T 36), (some (28, false))⟩,
 ⟨(some 38), .load none (T 37), (some (28, false))⟩,
 ⟨(some 39), .bin .neq (T 33) (T 38), (some (28, false))⟩,
 ⟨(some 40), .pick (T 28) (.const (.bool true)) (T 39), none⟩,
 ⟨(some 41), .mv (T 40), none⟩,
 ⟨(some 42), .mv (T 0), (some (41, false))⟩,
 ⟨(some 43), .mv (T 5), (some (41, false))⟩,
 ⟨(some 44), .iaddr (some 10) (T 42) (T 43), (some (41, false))⟩,
 ⟨(some 45), .load (some 10) (T 44), (some (41, false))⟩,
 ⟨(some 46), .mv (T 1), (some (41, false))⟩,
 ⟨(some 47), .mv (T 5), (some (41, false))⟩,
 ⟨(some 48), .iaddr (some 10) (T 46) (T 47), (some (41, false))⟩,
 ⟨(some 49), .load (some 10) (T 48), (some (41, false))⟩,
 ⟨(some 50), .call true n_drayageref07_alike [(T 45), (T 49)], (some (41, false))⟩,
 ⟨(some 51), .un .not (T 50), (some (41, false))⟩,
 ⟨(some 52), .pick (T 41) (.const (.bool true)) (T 51), none⟩,
 ⟨(some 53), .mv (T 52), none⟩,
 ⟨(some 54), .mv (T 0), (some (53, false))⟩,
 ⟨(some 55), .mv (T 5), (some (53, false))⟩,
 ⟨(some 56), .iaddr (some 10) (T 54) (T 55), (some (53, false))⟩,
 ⟨(some 57), .faddr 8 (T 56), (some (53, false))⟩,
 ⟨(some 58), .load none (T 57), (some (53, false))⟩,
 ⟨(some 59), .mv (T 1), (some (53, false))⟩,
 ⟨(some 60), .mv (T 5), (some (53, false))⟩,
 ⟨(some 61), .iaddr (some 10) (T 59) (T 60), (some (53, false))⟩,
 ⟨(some 62), .faddr 8 (T 61), (some (53, false))⟩,
 ⟨(some 63), .load none (T 62), (some (53, false))⟩,
 ⟨(some 64), .bin .neq (T 58) (T 63), (some (53, false))⟩,
 ⟨(some 65), .pick (T 53) (.const (.bool true)) (T 64), none⟩,
 ⟨(some 66), .mv (T 65), none⟩,
 ⟨(some 67), .mv (T 0), (some (66, false))⟩,
 ⟨(some 68), .mv (T 5), (some (66, false))⟩,
 ⟨(some 69), .iaddr (some 10) (T 67) (T 68), (some (66, false))⟩,
 ⟨(some 70), .faddr 9 (T 69), (some (66, false))⟩,
 ⟨(some 71), .load none (T 70), (some (66, false))⟩,
 ⟨(some 72), .b2s (T 71), (some (66, false))⟩,
 ⟨(some 73), .mv (T 1), (some (66, false))⟩,
 ⟨(some 74), .mv (T 5), (some (66, false))⟩,
 ⟨(some 75), .iaddr (some 10) (T 73) (T 74), (some (66, false))⟩,
 ⟨(some 76), .faddr 9 (T 75), (some (66, false))⟩,
 ⟨(some 77), .load none (T 76), (some (66, false))⟩,
 ⟨(some 78), .b2s (T 77), (some (66, false))⟩,
 ⟨(some 79), .bin .neq (T 72) (T 78), (some (66, false))⟩,
 ⟨(some 80), .pick (T 66) (.const (.bool true)) (T 79), none⟩])
 (.cond (T 80)
 (.seq (.reg [⟨(some 4), .mv (.const (.bool false)), none⟩])
 .ret)
 .skip)))
 (.reg [⟨(some 15), .mv (T 5), none⟩,
 ⟨(some 16), .bin .add (T 15) (C (1)), none⟩,
 ⟨(some 5), .mv (T 16), none⟩]))))))
 (.seq (.reg [⟨(some 4), .mv (.const (.bool true)), none⟩])
 .ret))))
theorem e_drayageref07_Same : slimC Tryd.prog 81 (Tryd.f21.body.getD .skip) = s_drayageref07_Same := by kernel_rfl
theorem r_drayageref07_Same : slimRes Tryd.prog Tryd.f21 = some [.tmp 4] := by kernel_rfl
def s_drayageref07_Find : SCode :=
 (.seq (.reg [⟨(some 4), .mv (C (0)), none⟩])
 (.seq (.seq (.reg [⟨(some 5), .mv (C (0)), none⟩])
 (.block 0
 (.loop
 (.seq (.seq (.reg [⟨(some 6), .mv (T 5), none⟩,
 ⟨(some 7), .mv (T 0), none⟩,
 ⟨(some 8), .len false (T 7), none⟩,
 ⟨(some 9), .bin .lss (T 6) (T 8), none⟩])
 (.cond (T 9)
 .skip
 (.exit 0)))
 (.seq (.block 1
 (.seq (.reg [⟨(some 12), .mv (T 0), none⟩,
 ⟨(some 13), .mv (T 5), none⟩,
 ⟨(some 14), .iaddr (some 10) (T 12) (T 13), none⟩,
 ⟨(some 15), .faddr 0 (T 14), none⟩,
 ⟨(some 16), .load none (T 15), none⟩,
 ⟨(some 17), .mv (T 1), none⟩,
 ⟨(some 18), .bin .eql (T 16) (T 17), none⟩])
 (.cond (T 18)
 (.seq (.reg [⟨(some 19), .mv (T 5), none⟩,
 ⟨(some 4), .mv (T 19), none⟩])
 .ret)
 .skip)))
 (.reg [⟨(some 10), .mv (T 5), none⟩,
 ⟨(some 11), .bin .add (T 10) (C (1)), none⟩,
 ⟨(some 5), .mv (T 11), none⟩]))))))
 (.seq (.reg [⟨(some 4), .mv (C (-1)), none⟩])
 .ret)))
theorem e_drayageref07_Find : slimC Tryd.prog 20 (Tryd.f22.body.getD .skip) = s_drayageref07_Find := by kernel_rfl
theorem r_drayageref07_Find : slimRes Tryd.prog Tryd.f22 = some [.tmp 4] := by kernel_rfl
def s_entry_Copy : SCode :=
 (.seq (.reg [⟨(some 2), .mv (.const (.slice none 0 0)), none⟩])
 (.seq (.reg [⟨(some 5), .mv (T 0), none⟩,
 ⟨(some 6), .call true n_slices_Cloneapi_Entryapi_Entry [(T 5)], none⟩,
 ⟨(some 3), .mv (T 6), none⟩])
 (.seq (.seq (.reg [⟨(some 7), .mv (T 3), none⟩,
 ⟨(some 8), .len false (T 7), none⟩,
 ⟨(some 9), .mv (C (0)), none⟩])
 (.block 0
 (.loop
 (.seq (.reg [⟨(some 10), .bin .lss (T 9) (T 8), none⟩])
 (.seq (.cond (T 10)
 .skip
 (.exit 0))
 (.seq (.block 1
 (.seq (.reg [⟨(some 11), .mv (T 9), none⟩,
 ⟨(some 4), .mv (T 11), none⟩])
 (.reg [⟨(some 12), .mv (T 3), none⟩,
 ⟨(some 13), .mv (T 4), none⟩,
 ⟨(some 14), .mv (T 3), none⟩,
 ⟨(some 15), .mv (T 4), none⟩,
 ⟨(some 16), .iaddr (some 10) (T 14) (T 15), none⟩,
 ⟨(some 17), .faddr 9 (T 16), none⟩,
 ⟨(some 18), .load none (T 17), none⟩,
 ⟨(some 19), .call true n_bytes_Clone [(T 18)], none⟩,
 ⟨(some 20), .iaddr (some 10) (T 12) (T 13), none⟩,
 ⟨(some 21), .faddr 9 (T 20), none⟩,
 ⟨none, .store none (T 21) (T 19), none⟩])))
 (.reg [⟨(some 22), .bin .add (T 9) (C (1)), none⟩,
 ⟨(some 9), .mv (T 22), none⟩])))))))
 (.seq (.reg [⟨(some 23), .mv (T 3), none⟩,
 ⟨(some 2), .mv (T 23), none⟩])
 .ret))))
theorem e_entry_Copy : slimC Tryd.prog 24 (Tryd.f23.body.getD .skip) = s_entry_Copy := by kernel_rfl
theorem r_entry_Copy : slimRes Tryd.prog Tryd.f23 = some [.tmp 2] := by kernel_rfl
def s_strings_LastIndexByte : SCode :=
 (.seq (.reg [⟨(some 4), .mv (C (0)), none⟩])
 (.seq (.reg [⟨(some 5), .mv (T 0), none⟩,
 ⟨(some 6), .mv (T 1), none⟩,
 ⟨(some 7), .call true n_bytealg_LastIndexByteString [(T 5), (T 6)], none⟩,
 ⟨(some 4), .mv (T 7), none⟩])
 .ret))
theorem e_strings_LastIndexByte : slimC Tryd.prog 8 (Tryd.f25.body.getD .skip) = s_strings_LastIndexByte := by kernel_rfl
theorem r_strings_LastIndexByte : slimRes Tryd.prog Tryd.f25 = some [.tmp 4] := by kernel_rfl
def s_strings_SplitSeq : SCode :=
 (.seq (.reg [⟨(some 4), .mv (.const .nilFunc), none⟩])
 (.seq (.reg [⟨(some 5), .mv (T 0), none⟩,
 ⟨(some 6), .mv (T 1), none⟩,
 ⟨(some 7), .call true n_strings_splitSeq [(T 5), (T 6), (C (0))], none⟩,
 ⟨(some 4), .mv (T 7), none⟩])
 .ret))
theorem e_strings_SplitSeq : slimC Tryd.prog 8 (Tryd.f28.body.getD .skip) = s_strings_SplitSeq := by kernel_rfl
theorem r_strings_SplitSeq : slimRes Tryd.prog Tryd.f28 = some [.tmp 4] := by kernel_rfl
def s_entry_ahead_check : SCode :=
 (.seq (.reg [⟨(some 2), .box (T 0), none⟩,
 ⟨(some 3), .box (T 1), none⟩,
 ⟨(some 4), .mv (C (0)), none⟩])
 (.seq (.seq (.reg [⟨(some 10), .load (some 10) (T 3), none⟩,
 ⟨(some 11), .call true n_entry_Check [(T 10)], none⟩,
 ⟨(some 5), .mv (T 11), none⟩])
 (.seq (.reg [⟨(some 12), .mv (T 5), none⟩,
 ⟨(some 13), .bin .neq (T 12) (C (0)), none⟩])
 (.cond (T 13)
 (.seq (.reg [⟨(some 14), .mv (T 5), none⟩,
 ⟨(some 4), .mv (T 14), none⟩])
 .ret)
 .skip)))
 (.seq (.seq (.reg [⟨(some 16), .faddr 0 (T 2), none⟩,
 ⟨(some 17), .load none (T 16), none⟩,
 ⟨(some 18), .faddr 0 (T 3), none⟩,
 ⟨(some 19), .load none (T 18), none⟩,
 ⟨(some 20), .mget true (.string ⟨#[]⟩) (.agg #[(.string ⟨#[]⟩), (.int .i64 (0)), (.int .i64 (0)), (.int .i64 (0)), (.int .i64 (0)), (.string ⟨#[]⟩), (.string ⟨#[]⟩), (.int .i64 (0)), (.string ⟨#[]⟩), (.slice none 0 0)]) (T 17) (T 19), none⟩,
 ⟨(some 15), .mv (T 20), none⟩,
 ⟨(some 21), .ext (T 15) 0, none⟩,
 ⟨(some 22), .ext (T 15) 1, none⟩,
 ⟨(some 6), .alloc [(.string ⟨#[]⟩), (.int .i64 (0)), (.int .i64 (0)), (.int .i64 (0)), (.int .i64 (0)), (.string ⟨#[]⟩), (.string ⟨#[]⟩), (.int .i64 (0)), (.string ⟨#[]⟩), (.slice none 0 0)], none⟩,
 ⟨none, .store (some 10) (T 6) (T 21), none⟩,
 ⟨(some 7), .mv (T 22), none⟩])
 (.seq (.reg [⟨(some 23), .mv (T 7), none⟩])
 (.cond (T 23)
 (.seq (.reg [⟨(some 4), .mv (C (8)), none⟩])
 .ret)
 .skip)))
 (.seq (.seq (.reg [⟨(some 24), .faddr 1 (T 3), none⟩,
 ⟨(some 25), .load none (T 24), none⟩,
 ⟨(some 26), .bin .eql (T 25) (C (4)), none⟩])
 (.cond (T 26)
 (.seq (.reg [⟨(some 28), .faddr 0 (T 2), none⟩,
 ⟨(some 29), .load none (T 28), none⟩,
 ⟨(some 30), .faddr 8 (T 3), none⟩,
 ⟨(some 31), .load none (T 30), none⟩,
 ⟨(some 32), .mget true (.string ⟨#[]⟩) (.agg #[(.string ⟨#[]⟩), (.int .i64 (0)), (.int .i64 (0)), (.int .i64 (0)), (.int .i64 (0)), (.string ⟨#[]⟩), (.string ⟨#[]⟩), (.int .i64 (0)), (.string ⟨#[]⟩), (.slice none 0 0)]) (T 29) (T 31), none⟩,
 ⟨(some 27), .mv (T 32), none⟩,
 ⟨(some 33), .ext (T 27) 0, none⟩,
 ⟨(some 34), .ext (T 27) 1, none⟩,
 ⟨(some 8), .alloc [(.string ⟨#[]⟩), (.int .i64 (0)), (.int .i64 (0)), (.int .i64 (0)), (.int .i64 (0)), (.string ⟨#[]⟩), (.string ⟨#[]⟩), (.int .i64 (0)), (.string ⟨#[]⟩), (.slice none 0 0)], none⟩,
 ⟨none, .store (some 10) (T 8) (T 33), none⟩,
 ⟨(some 9), .mv (T 34), none⟩])
 (.seq (.seq (.reg [⟨(some 35), .mv (T 9), none⟩,
 ⟨(some 36), .un .not (T 35), none⟩,
 ⟨(some 37), .mv (T 36), none⟩,
 ⟨(some 38), .faddr 1 (T 8), (some (37, false))⟩,
 ⟨(some 39), .load none (T 38), (some (37, false))⟩,
 ⟨(some 40), .bin .neq (T 39) (C (1)), (some (37, false))⟩,
 ⟨(some 41), .pick (T 37) (.const (.bool true)) (T 40), none⟩])
 (.cond (T 41)
 (.seq (.reg [⟨(some 4), .mv (C (15)), none⟩])
 .ret)
 .skip))
 (.seq (.reg [⟨(some 42), .load (some 10) (T 3), none⟩,
 ⟨(some 43), .call false n_entry_rightsOf [(T 42)], none⟩,
 ⟨(some 44), .load (some 10) (T 8), none⟩,
 ⟨(some 45), .call true n_entry_rightsOf [(T 44)], none⟩,
 ⟨(some 46), .aeq true (.agg #[(.int .i64 (0)), (.int .i64 (0)), (.int .i64 (0)), (.string ⟨#[]⟩), (.string ⟨#[]⟩), (.int .i64 (0))]) (T 43) (T 45), none⟩])
 (.cond (T 46)
 (.seq (.reg [⟨(some 4), .mv (C (1)), none⟩])
 .ret)
 .skip))))
 .skip))
 (.seq (.seq (.reg [⟨(some 47), .load (some 2) (T 2), none⟩,
 ⟨(some 48), .load (some 10) (T 3), none⟩,
 ⟨(some 49), .call true n_entry_ahead_isUnderOther [(T 47), (T 48)], none⟩,
 ⟨(some 50), .mv (T 49), none⟩,
 ⟨(some 51), .load (some 2) (T 2), (some (50, false))⟩,
 ⟨(some 52), .load (some 10) (T 3), (some (50, false))⟩,
 ⟨(some 53), .call true n_entry_ahead_isAboveOne [(T 51), (T 52)], (some (50, false))⟩,
 ⟨(some 54), .pick (T 50) (.const (.bool true)) (T 53), none⟩])
 (.cond (T 54)
 (.seq (.reg [⟨(some 4), .mv (C (9)), none⟩])
 .ret)
 .skip))
 (.seq (.reg [⟨(some 4), .mv (C (0)), none⟩])
 .ret))))))
theorem e_entry_ahead_check : slimC Tryd.prog 55 (Tryd.f30.body.getD .skip) = s_entry_ahead_check := by kernel_rfl
theorem r_entry_ahead_check : slimRes Tryd.prog Tryd.f30 = some [.tmp 4] := by kernel_rfl
def s_entry_ahead_add : SCode :=
 (.seq (.reg [⟨(some 2), .box (T 0), none⟩,
 ⟨(some 3), .box (T 1), none⟩])
 (.seq (.reg [⟨(some 5), .faddr 0 (T 2), none⟩,
 ⟨(some 6), .load none (T 5), none⟩,
 ⟨(some 7), .faddr 0 (T 3), none⟩,
 ⟨(some 8), .load none (T 7), none⟩,
 ⟨(some 9), .load (some 10) (T 3), none⟩,
 ⟨none, .mset (.string ⟨#[]⟩) (T 6) (T 8) (T 9), none⟩])
 (.seq (.reg [⟨(some 10), .faddr 0 (T 3), none⟩,
 ⟨(some 11), .load none (T 10), none⟩,
 ⟨(some 12), .call true n_entry_above [(T 11)], none⟩])
 (.block 0
 (.rng true (T 12) [13]
 (.reg [⟨(some 4), .mv (T 13), none⟩])
 (.block 1
 (.reg [⟨(some 14), .faddr 1 (T 2), none⟩,
 ⟨(some 15), .load none (T 14), none⟩,
 ⟨(some 16), .mv (T 4), none⟩,
 ⟨(some 17), .build [] [], none⟩,
 ⟨none, .mset (.string ⟨#[]⟩) (T 15) (T 16) (T 17), none⟩])))))))
theorem e_entry_ahead_add : slimC Tryd.prog 18 (Tryd.f31.body.getD .skip) = s_entry_ahead_add := by kernel_rfl
theorem r_entry_ahead_add : slimRes Tryd.prog Tryd.f31 = some [] := by kernel_rfl
def s_entry_numbersFit : SCode :=
 (.seq (.reg [⟨(some 1), .box (T 0), none⟩,
 ⟨(some 2), .mv (.const (.bool false)), none⟩])
 (.seq (.reg [⟨(some 3), .faddr 2 (T 1), none⟩,
 ⟨(some 4), .load none (T 3), none⟩,
 ⟨(some 5), .call true n_entry_isUpTo [(C (4095)), (T 4)], none⟩,
 ⟨(some 6), .mv (T 5), none⟩,
 ⟨(some 7), .faddr 3 (T 1), (some (6, true))⟩,
 ⟨(some 8), .load none (T 7), (some (6, true))⟩,
 ⟨(some 9), .call true n_entry_isUpTo [(C (2097151)), (T 8)], (some (6, true))⟩,
 ⟨(some 10), .pick (T 6) (T 9) (.const (.bool false)), none⟩,
 ⟨(some 11), .mv (T 10), none⟩,
 ⟨(some 12), .faddr 4 (T 1), (some (11, true))⟩,
 ⟨(some 13), .load none (T 12), (some (11, true))⟩,
 ⟨(some 14), .call true n_entry_isUpTo [(C (2097151)), (T 13)], (some (11, true))⟩,
 ⟨(some 15), .pick (T 11) (T 14) (.const (.bool false)), none⟩,
 ⟨(some 16), .mv (T 15), none⟩,
 ⟨(some 17), .faddr 7 (T 1), (some (16, true))⟩,
 ⟨(some 18), .load none (T 17), (some (16, true))⟩,
 ⟨(some 19), .call true n_entry_isUpTo [(C (8589934591)), (T 18)], (some (16, true))⟩,
 ⟨(some 20), .pick (T 16) (T 19) (.const (.bool false)), none⟩,
 ⟨(some 2), .mv (T 20), none⟩])
 .ret))
theorem e_entry_numbersFit : slimC Tryd.prog 21 (Tryd.f33.body.getD .skip) = s_entry_numbersFit := by kernel_rfl
theorem r_entry_numbersFit : slimRes Tryd.prog Tryd.f33 = some [.tmp 2] := by kernel_rfl
def s_entry_isOwner : SCode :=
 (.seq (.reg [⟨(some 2), .mv (.const (.bool false)), none⟩])
 (.seq (.reg [⟨(some 3), .mv (T 0), none⟩,
 ⟨(some 4), .len true (T 3), none⟩,
 ⟨(some 5), .bin .leq (T 4) (C (31)), none⟩,
 ⟨(some 6), .mv (T 5), none⟩,
 ⟨(some 7), .mv (T 0), (some (6, true))⟩,
 ⟨(some 8), .call true n_strings_ContainsAny [(T 7), (.const (.string ⟨#[0, 10, 58]⟩))], (some (6, true))⟩,
 ⟨(some 9), .un .not (T 8), (some (6, true))⟩,
 ⟨(some 10), .pick (T 6) (T 9) (.const (.bool false)), none⟩,
 ⟨(some 2), .mv (T 10), none⟩])
 .ret))
theorem e_entry_isOwner : slimC Tryd.prog 11 (Tryd.f34.body.getD .skip) = s_entry_isOwner := by kernel_rfl
theorem r_entry_isOwner : slimRes Tryd.prog Tryd.f34 = some [.tmp 2] := by kernel_rfl
def s_entry_pointsRight : SCode :=
 (.seq (.reg [⟨(some 1), .box (T 0), none⟩,
 ⟨(some 2), .mv (.const (.bool false)), none⟩])
 (.seq (.seq (.reg [⟨(some 3), .faddr 1 (T 1), none⟩,
 ⟨(some 4), .load none (T 3), none⟩])
 (.block 0
 (.seq (.reg [⟨(some 6), .bin .eql (T 4) (C (3)), none⟩,
 ⟨(some 5), .mv (T 6), none⟩])
 (.cond (T 5)
 (.seq (.reg [⟨(some 7), .faddr 8 (T 1), none⟩,
 ⟨(some 8), .load none (T 7), none⟩,
 ⟨(some 9), .bin .neq (T 8) (.const (.string ⟨#[]⟩)), none⟩,
 ⟨(some 10), .mv (T 9), none⟩,
 ⟨(some 11), .faddr 8 (T 1), (some (10, true))⟩,
 ⟨(some 12), .load none (T 11), (some (10, true))⟩,
 ⟨(some 13), .len true (T 12), (some (10, true))⟩,
 ⟨(some 14), .bin .leq (T 13) (C (200)), (some (10, true))⟩,
 ⟨(some 15), .pick (T 10) (T 14) (.const (.bool false)), none⟩,
 ⟨(some 16), .mv (T 15), none⟩,
 ⟨(some 17), .faddr 8 (T 1), (some (16, true))⟩,
 ⟨(some 18), .load none (T 17), (some (16, true))⟩,
 ⟨(some 19), .call true n_strings_ContainsAny [(T 18), (.const (.string ⟨#[0, 10]⟩))], (some (16, true))⟩,
 ⟨(some 20), .un .not (T 19), (some (16, true))⟩,
 ⟨(some 21), .pick (T 16) (T 20) (.const (.bool false)), none⟩,
 ⟨(some 2), .mv (T 21), none⟩])
 .ret)
 (.seq (.reg [⟨(some 23), .bin .eql (T 4) (C (4)), none⟩,
 ⟨(some 22), .mv (T 23), none⟩])
 (.cond (T 22)
 (.seq (.reg [⟨(some 24), .faddr 8 (T 1), none⟩,
 ⟨(some 25), .load none (T 24), none⟩,
 ⟨(some 26), .call true n_entry_Path [(T 25)], none⟩,
 ⟨(some 27), .mv (T 26), none⟩,
 ⟨(some 28), .faddr 8 (T 1), (some (27, true))⟩,
 ⟨(some 29), .load none (T 28), (some (27, true))⟩,
 ⟨(some 30), .faddr 0 (T 1), (some (27, true))⟩,
 ⟨(some 31), .load none (T 30), (some (27, true))⟩,
 ⟨(some 32), .bin .neq (T 29) (T 31), (some (27, true))⟩,
 ⟨(some 33), .pick (T 27) (T 32) (.const (.bool false)), none⟩,
 ⟨(some 2), .mv (T 33), none⟩])
 .ret)
 .skip))))))
 (.seq (.reg [⟨(some 2), .mv (.const (.bool true)), none⟩])
 .ret)))
theorem e_entry_pointsRight : slimC Tryd.prog 34 (Tryd.f35.body.getD .skip) = s_entry_pointsRight := by kernel_rfl
theorem r_entry_pointsRight : slimRes Tryd.prog Tryd.f35 = some [.tmp 2] := by kernel_rfl
def s_entry_regroup : SCode :=
 (.seq (.reg [⟨(some 8), .mkm, none⟩,
 ⟨(some 2), .mv (T 8), none⟩])
 (.seq (.reg [⟨(some 9), .mv (T 0), none⟩,
 ⟨(some 10), .len false (T 9), none⟩,
 ⟨(some 11), .mv (C (0)), none⟩])
 (.block 0
 (.loop
 (.seq (.reg [⟨(some 12), .bin .lss (T 11) (T 10), none⟩])
 (.seq (.cond (T 12)
 .skip
 (.exit 0))
 (.seq (.block 1
 (.seq (.reg [⟨(some 13), .mv (T 11), none⟩,
 ⟨(some 3), .mv (T 13), none⟩])
 (.seq (.reg [⟨(some 15), .mv (T 0), none⟩,
 ⟨(some 16), .mv (T 3), none⟩,
 ⟨(some 17), .iaddr (some 10) (T 15) (T 16), none⟩,
 ⟨(some 18), .load (some 10) (T 17), none⟩,
 ⟨(some 19), .call true n_entry_fileOf [(T 18)], none⟩,
 ⟨(some 14), .mv (T 19), none⟩,
 ⟨(some 20), .ext (T 14) 0, none⟩,
 ⟨(some 21), .ext (T 14) 1, none⟩,
 ⟨(some 4), .mv (T 20), none⟩,
 ⟨(some 5), .mv (T 21), none⟩])
 (.seq (.seq (.reg [⟨(some 22), .mv (T 5), none⟩,
 ⟨(some 23), .un .not (T 22), none⟩])
 (.cond (T 23)
 (.exit 1)
 .skip))
 (.seq (.reg [⟨(some 25), .mv (T 2), none⟩,
 ⟨(some 26), .mv (T 4), none⟩,
 ⟨(some 27), .mget true (.string ⟨#[]⟩) (.int .i64 (0)) (T 25) (T 26), none⟩,
 ⟨(some 24), .mv (T 27), none⟩,
 ⟨(some 28), .ext (T 24) 0, none⟩,
 ⟨(some 29), .ext (T 24) 1, none⟩,
 ⟨(some 6), .mv (T 28), none⟩,
 ⟨(some 7), .mv (T 29), none⟩])
 (.seq (.seq (.reg [⟨(some 30), .mv (T 7), none⟩,
 ⟨(some 31), .un .not (T 30), none⟩])
 (.cond (T 31)
 (.seq (.reg [⟨(some 32), .mv (T 2), none⟩,
 ⟨(some 33), .mv (T 4), none⟩,
 ⟨(some 34), .mv (T 3), none⟩,
 ⟨none, .mset (.string ⟨#[]⟩) (T 32) (T 33) (T 34), none⟩])
 (.exit 1))
 .skip))
 (.seq (.seq (.reg [⟨(some 35), .mv (T 0), none⟩,
 ⟨(some 36), .mv (T 3), none⟩,
 ⟨(some 37), .iaddr (some 10) (T 35) (T 36), none⟩,
 ⟨(some 38), .faddr 1 (T 37), none⟩,
 ⟨(some 39), .load none (T 38), none⟩,
 ⟨(some 40), .bin .eql (T 39) (C (1)), none⟩])
 (.cond (T 40)
 (.reg [⟨(some 41), .mv (T 0), none⟩,
 ⟨(some 42), .mv (T 6), none⟩,
 ⟨(some 43), .mv (T 0), none⟩,
 ⟨(some 44), .mv (T 6), none⟩,
 ⟨(some 45), .mv (T 0), none⟩,
 ⟨(some 46), .mv (T 6), none⟩,
 ⟨(some 47), .mv (T 0), none⟩,
 ⟨(some 48), .mv (T 3), none⟩,
 ⟨(some 49), .iaddr (some 10) (T 47) (T 48), none⟩,
 ⟨(some 50), .faddr 9 (T 49), none⟩,
 ⟨(some 51), .load none (T 50), none⟩,
 ⟨(some 52), .iaddr (some 10) (T 41) (T 42), none⟩,
 ⟨(some 53), .faddr 1 (T 52), none⟩,
 ⟨none, .store none (T 53) (C (1)), none⟩,
 ⟨(some 54), .iaddr (some 10) (T 43) (T 44), none⟩,
 ⟨(some 55), .faddr 8 (T 54), none⟩,
 ⟨none, .store none (T 55) (.const (.string ⟨#[]⟩)), none⟩,
 ⟨(some 56), .iaddr (some 10) (T 45) (T 46), none⟩,
 ⟨(some 57), .faddr 9 (T 56), none⟩,
 ⟨none, .store none (T 57) (T 51), none⟩])
 .skip))
 (.reg [⟨(some 58), .mv (T 0), none⟩,
 ⟨(some 59), .mv (T 3), none⟩,
 ⟨(some 60), .mv (T 0), none⟩,
 ⟨(some 61), .mv (T 3), none⟩,
 ⟨(some 62), .mv (T 0), none⟩,
 ⟨(some 63), .mv (T 3), none⟩,
 ⟨(some 64), .mv (T 0), none⟩,
 ⟨(some 65), .mv (T 6), none⟩,
 ⟨(some 66), .iaddr (some 10) (T 64) (T 65), none⟩,
 ⟨(some 67), .faddr 0 (T 66), none⟩,
 ⟨(some 68), .load none (T 67), none⟩,
 ⟨(some 69), .iaddr (some 10) (T 58) (T 59), none⟩,
 ⟨(some 70), .faddr 1 (T 69), none⟩,
 ⟨none, .store none (T 70) (C (4)), none⟩,
 ⟨(some 71), .iaddr (some 10) (T 60) (T 61), none⟩,
 ⟨(some 72), .faddr 8 (T 71), none⟩,
 ⟨none, .store none (T 72) (T 68), none⟩,
 ⟨(some 73), .iaddr (some 10) (T 62) (T 63), none⟩,
 ⟨(some 74), .faddr 9 (T 73), none⟩,
 ⟨none, .store none (T 74) (.const (.slice none 0 0)), none⟩]))))))))
 (.reg [⟨(some 75), .bin .add (T 11) (C (1)), none⟩,
 ⟨(some 11), .mv (T 75), none⟩]))))))))
theorem e_entry_regroup : slimC Tryd.prog 76 (Tryd.f40.body.getD .skip) = s_entry_regroup := by kernel_rfl
theorem r_entry_regroup : slimRes Tryd.prog Tryd.f40 = some [] := by kernel_rfl
def s_drayageref07_alike : SCode :=
 (.seq (.reg [⟨(some 2), .box (T 0), none⟩,
 ⟨(some 3), .box (T 1), none⟩,
 ⟨(some 4), .mv (.const (.bool false)), none⟩])
 (.seq (.reg [⟨(some 5), .faddr 2 (T 2), none⟩,
 ⟨(some 6), .load none (T 5), none⟩,
 ⟨(some 7), .faddr 2 (T 3), none⟩,
 ⟨(some 8), .load none (T 7), none⟩,
 ⟨(some 9), .bin .eql (T 6) (T 8), none⟩,
 ⟨(some 10), .mv (T 9), none⟩,
 ⟨(some 11), .faddr 3 (T 2), (some (10, true))⟩,
 ⟨(some 12), .load none (T 11), (some (10, true))⟩,
 ⟨(some 13), .faddr 3 (T 3), (some (10, true))⟩,
 ⟨(some 14), .load none (T 13), (some (10, true))⟩,
 ⟨(some 15), .bin .eql (T 12) (T 14), (some (10, true))⟩,
 ⟨(some 16), .pick (T 10) (T 15) (.const (.bool false)), none⟩,
 ⟨(some 17), .mv (T 16), none⟩,
 ⟨(some 18), .faddr 4 (T 2), (some (17, true))⟩,
 ⟨(some 19), .load none (T 18), (some (17, true))⟩,
 ⟨(some 20), .faddr 4 (T 3), (some (17, true))⟩,
 ⟨(some 21), .load none (T 20), (some (17, true))⟩,
 ⟨(some 22), .bin .eql (T 19) (T 21), (some (17, true))⟩,
 ⟨(some 23), .pick (T 17) (T 22) (.const (.bool false)), none⟩,
 ⟨(some 24), .mv (T 23), none⟩,
 ⟨(some 25), .faddr 5 (T 2), (some (24, true))⟩,
 ⟨(some 26), .load none (T 25), (some (24, true))⟩,
 ⟨(some 27), .faddr 5 (T 3), (some (24, true))⟩,
 ⟨(some 28), .load none (T 27), (some (24, true))⟩,
 ⟨(some 29), .bin .eql (T 26) (T 28), (some (24, true))⟩,
 ⟨(some 30), .pick (T 24) (T 29) (.const (.bool false)), none⟩,
 ⟨(some 31), .mv (T 30), none⟩,
 ⟨(some 32), .faddr 6 (T 2), (some (31, true))⟩,
 ⟨(some 33), .load none (T 32), (some (31, true))⟩,
 ⟨(some 34), .faddr 6 (T 3), (some (31, true))⟩,
 ⟨(some 35), .load none (T 34), (some (31, true))⟩,
 ⟨(some 36), .bin .eql (T 33) (T 35), (some (31, true))⟩,
 ⟨(some 37), .pick (T 31) (T 36) (.const (.bool false)), none⟩,
 ⟨(some 38), .mv (T 37), none⟩,
 ⟨(some 39), .faddr 7 (T 2), (some (38, true))⟩,
 ⟨(some 40), .load none (T 39), (some (38, true))⟩,
 ⟨(some 41), .faddr 7 (T 3), (some (38, true))⟩,
 ⟨(some 42), .load none (T 41), (some (38, true))⟩,
 ⟨(some 43), .bin .eql (T 40) (T 42), (some (38, true))⟩,
 ⟨(some 44), .pick (T 38) (T 43) (.const (.bool false)), none⟩,
 ⟨(some 4), .mv (T 44), none⟩])
 .ret))
theorem e_drayageref07_alike : slimC Tryd.prog 45 (Tryd.f41.body.getD .skip) = s_drayageref07_alike := by kernel_rfl
theorem r_drayageref07_alike : slimRes Tryd.prog Tryd.f41 = some [.tmp 4] := by kernel_rfl
def s_slices_Cloneapi_Entryapi_Entry : SCode :=
 (.seq (.reg [⟨(some 2), .mv (.const (.slice none 0 0)), none⟩])
 (.seq (.seq (.reg [⟨(some 3), .mv (T 0), none⟩,
 ⟨(some 4), .isnil false (T 3), none⟩])
 (.cond (T 4)
 (.seq (.reg [⟨(some 2), .mv (.const (.slice none 0 0)), none⟩])
 .ret)
 .skip))
 (.seq (.reg [⟨(some 5), .emp (some 10), none⟩,
 ⟨(some 6), .mv (T 0), none⟩,
 ⟨(some 7), .app (some 10) 128 (T 5) (T 6), none⟩,
 ⟨(some 2), .mv (T 7), none⟩])
 .ret)))
theorem e_slices_Cloneapi_Entryapi_Entry : slimC Tryd.prog 8 (Tryd.f42.body.getD .skip) = s_slices_Cloneapi_Entryapi_Entry := by kernel_rfl
theorem r_slices_Cloneapi_Entryapi_Entry : slimRes Tryd.prog Tryd.f42 = some [.tmp 2] := by kernel_rfl
def s_bytes_Clone : SCode :=
 (.seq (.reg [⟨(some 2), .mv (.const (.slice none 0 0)), none⟩])
 (.seq (.seq (.reg [⟨(some 3), .mv (T 0), none⟩,
 ⟨(some 4), .isnil false (T 3), none⟩])
 (.cond (T 4)
 (.seq (.reg [⟨(some 2), .mv (.const (.slice none 0 0)), none⟩])
 .ret)
 .skip))
 (.seq (.reg [⟨(some 5), .emp none, none⟩,
 ⟨(some 6), .mv (T 0), none⟩,
 ⟨(some 7), .app none 1 (T 5) (T 6), none⟩,
 ⟨(some 2), .mv (T 7), none⟩])
 .ret)))
theorem e_bytes_Clone : slimC Tryd.prog 8 (Tryd.f43.body.getD .skip) = s_bytes_Clone := by kernel_rfl
theorem r_bytes_Clone : slimRes Tryd.prog Tryd.f43 = some [.tmp 2] := by kernel_rfl
def s_bytealg_LastIndexByteString : SCode :=
 (.seq (.reg [⟨(some 4), .mv (C (0)), none⟩])
 (.seq (.seq (.reg [⟨(some 6), .mv (T 0), none⟩,
 ⟨(some 7), .len true (T 6), none⟩,
 ⟨(some 8), .bin .sub (T 7) (C (1)), none⟩,
 ⟨(some 5), .mv (T 8), none⟩])
 (.block 0
 (.loop
 (.seq (.seq (.reg [⟨(some 9), .mv (T 5), none⟩,
 ⟨(some 10), .bin .geq (T 9) (C (0)), none⟩])
 (.cond (T 10)
 .skip
 (.exit 0)))
 (.seq (.block 1
 (.seq (.reg [⟨(some 13), .mv (T 0), none⟩,
 ⟨(some 14), .mv (T 5), none⟩,
 ⟨(some 15), .idxS (T 13) (T 14), none⟩,
 ⟨(some 16), .mv (T 1), none⟩,
 ⟨(some 17), .bin .eql (T 15) (T 16), none⟩])
 (.cond (T 17)
 (.seq (.reg [⟨(some 18), .mv (T 5), none⟩,
 ⟨(some 4), .mv (T 18), none⟩])
 .ret)
 .skip)))
 (.reg [⟨(some 11), .mv (T 5), none⟩,
 ⟨(some 12), .bin .sub (T 11) (C (1)), none⟩,
 ⟨(some 5), .mv (T 12), none⟩]))))))
 (.seq (.reg [⟨(some 4), .mv (C (-1)), none⟩])
 .ret)))
theorem e_bytealg_LastIndexByteString : slimC Tryd.prog 19 (Tryd.f46.body.getD .skip) = s_bytealg_LastIndexByteString := by kernel_rfl
theorem r_bytealg_LastIndexByteString : slimRes Tryd.prog Tryd.f46 = some [.tmp 4] := by kernel_rfl
def s_strings_splitSeq : SCode :=
 (.seq (.reg [⟨(some 3), .box (T 0), none⟩,
 ⟨(some 4), .box (T 1), none⟩,
 ⟨(some 5), .box (T 2), none⟩,
 ⟨(some 6), .mv (.const .nilFunc), none⟩])
 (.seq (.reg [⟨(some 7), .mkf n_strings_splitSeq_1 [(T 4), (T 3), (T 5)], none⟩,
 ⟨(some 6), .mv (T 7), none⟩])
 .ret))
theorem e_strings_splitSeq : slimC Tryd.prog 8 (Tryd.f48.body.getD .skip) = s_strings_splitSeq := by kernel_rfl
theorem r_strings_splitSeq : slimRes Tryd.prog Tryd.f48 = some [.tmp 6] := by kernel_rfl
def s_entry_rightsOf : SCode :=
 (.seq (.reg [⟨(some 1), .box (T 0), none⟩,
 ⟨(some 2), .alloc [(.int .i64 (0)), (.int .i64 (0)), (.int .i64 (0)), (.string ⟨#[]⟩), (.string ⟨#[]⟩), (.int .i64 (0))], none⟩])
 (.seq (.reg [⟨(some 3), .faddr 2 (T 1), none⟩,
 ⟨(some 4), .load none (T 3), none⟩,
 ⟨(some 5), .faddr 3 (T 1), none⟩,
 ⟨(some 6), .load none (T 5), none⟩,
 ⟨(some 7), .faddr 4 (T 1), none⟩,
 ⟨(some 8), .load none (T 7), none⟩,
 ⟨(some 9), .faddr 5 (T 1), none⟩,
 ⟨(some 10), .load none (T 9), none⟩,
 ⟨(some 11), .faddr 6 (T 1), none⟩,
 ⟨(some 12), .load none (T 11), none⟩,
 ⟨(some 13), .faddr 7 (T 1), none⟩,
 ⟨(some 14), .load none (T 13), none⟩,
 ⟨(some 15), .build [(.int .i64 (0)), (.int .i64 (0)), (.int .i64 (0)), (.string ⟨#[]⟩), (.string ⟨#[]⟩), (.int .i64 (0))] [(0, 1, (T 4)), (1, 1, (T 6)), (2, 1, (T 8)), (3, 1, (T 10)), (4, 1, (T 12)), (5, 1, (T 14))], none⟩,
 ⟨none, .store (some 6) (T 2) (T 15), none⟩])
 .ret))
theorem e_entry_rightsOf : slimC Tryd.prog 16 (Tryd.f49.body.getD .skip) = s_entry_rightsOf := by kernel_rfl
theorem r_entry_rightsOf : slimRes Tryd.prog Tryd.f49 = some [.cell 2 (some 6)] := by kernel_rfl
def s_entry_ahead_isUnderOther : SCode :=
 (.seq (.reg [⟨(some 2), .box (T 0), none⟩,
 ⟨(some 3), .box (T 1), none⟩,
 ⟨(some 4), .alloc [(.bool false)], none⟩])
 (.seq (.seq (.reg [⟨(some 8), .faddr 0 (T 3), none⟩,
 ⟨(some 9), .load none (T 8), none⟩,
 ⟨(some 10), .call true n_entry_above [(T 9)], none⟩])
 (.block 0
 (.rng true (T 10) [11]
 (.reg [⟨(some 5), .mv (T 11), none⟩])
 (.block 1
 (.seq (.reg [⟨(some 13), .faddr 0 (T 2), none⟩,
 ⟨(some 14), .load none (T 13), none⟩,
 ⟨(some 15), .mv (T 5), none⟩,
 ⟨(some 16), .mget true (.string ⟨#[]⟩) (.agg #[(.string ⟨#[]⟩), (.int .i64 (0)), (.int .i64 (0)), (.int .i64 (0)), (.int .i64 (0)), (.string ⟨#[]⟩), (.string ⟨#[]⟩), (.int .i64 (0)), (.string ⟨#[]⟩), (.slice none 0 0)]) (T 14) (T 15), none⟩,
 ⟨(some 12), .mv (T 16), none⟩,
 ⟨(some 17), .ext (T 12) 0, none⟩,
 ⟨(some 18), .ext (T 12) 1, none⟩,
 ⟨(some 6), .alloc [(.string ⟨#[]⟩), (.int .i64 (0)), (.int .i64 (0)), (.int .i64 (0)), (.int .i64 (0)), (.string ⟨#[]⟩), (.string ⟨#[]⟩), (.int .i64 (0)), (.string ⟨#[]⟩), (.slice none 0 0)], none⟩,
 ⟨none, .store (some 10) (T 6) (T 17), none⟩,
 ⟨(some 7), .mv (T 18), none⟩])
 (.seq (.reg [⟨(some 19), .mv (T 7), none⟩,
 ⟨(some 20), .mv (T 19), none⟩,
 ⟨(some 21), .faddr 1 (T 6), (some (20, true))⟩,
 ⟨(some 22), .load none (T 21), (some (20, true))⟩,
 ⟨(some 23), .bin .neq (T 22) (C (2)), (some (20, true))⟩,
 ⟨(some 24), .pick (T 20) (T 23) (.const (.bool false)), none⟩])
 (.cond (T 24)
 (.seq (.reg [⟨none, .store none (T 4) (.const (.bool true)), none⟩])
 .ret)
 .skip)))))))
 (.seq (.reg [⟨none, .store none (T 4) (.const (.bool false)), none⟩])
 .ret)))
theorem e_entry_ahead_isUnderOther : slimC Tryd.prog 25 (Tryd.f50.body.getD .skip) = s_entry_ahead_isUnderOther := by kernel_rfl
theorem r_entry_ahead_isUnderOther : slimRes Tryd.prog Tryd.f50 = some [.cell 4 none] := by kernel_rfl
def s_entry_ahead_isAboveOne : SCode :=
 (.seq (.reg [⟨(some 2), .box (T 0), none⟩,
 ⟨(some 3), .box (T 1), none⟩,
 ⟨(some 4), .mv (.const (.bool false)), none⟩])
 (.seq (.reg [⟨(some 8), .faddr 1 (T 2), none⟩,
 ⟨(some 9), .load none (T 8), none⟩,
 ⟨(some 10), .faddr 0 (T 3), none⟩,
 ⟨(some 11), .load none (T 10), none⟩,
 ⟨(some 12), .mget true (.string ⟨#[]⟩) (.agg #[]) (T 9) (T 11), none⟩,
 ⟨(some 7), .mv (T 12), none⟩,
 ⟨(some 13), .ext (T 7) 0, none⟩,
 ⟨(some 14), .ext (T 7) 1, none⟩,
 ⟨(some 5), .alloc [], none⟩,
 ⟨none, .store (some 0) (T 5) (T 13), none⟩,
 ⟨(some 6), .mv (T 14), none⟩])
 (.seq (.reg [⟨(some 15), .mv (T 6), none⟩,
 ⟨(some 16), .mv (T 15), none⟩,
 ⟨(some 17), .faddr 1 (T 3), (some (16, true))⟩,
 ⟨(some 18), .load none (T 17), (some (16, true))⟩,
 ⟨(some 19), .bin .neq (T 18) (C (2)), (some (16, true))⟩,
 ⟨(some 20), .pick (T 16) (T 19) (.const (.bool false)), none⟩,
 ⟨(some 4), .mv (T 20), none⟩])
 .ret)))
theorem e_entry_ahead_isAboveOne : slimC Tryd.prog 21 (Tryd.f51.body.getD .skip) = s_entry_ahead_isAboveOne := by kernel_rfl
theorem r_entry_ahead_isAboveOne : slimRes Tryd.prog Tryd.f51 = some [.tmp 4] := by kernel_rfl
def s_entry_above : SCode :=
 (.seq (.reg [⟨(some 1), .box (T 0), none⟩,
 ⟨(some 2), .mv (.const .nilFunc), none⟩])
 (.seq (.reg [⟨(some 3), .mkf n_entry_above_1 [(T 1)], none⟩,
 ⟨(some 2), .mv (T 3), none⟩])
 .ret))
theorem e_entry_above : slimC Tryd.prog 4 (Tryd.f52.body.getD .skip) = s_entry_above := by kernel_rfl
theorem r_entry_above : slimRes Tryd.prog Tryd.f52 = some [.tmp 2] := by kernel_rfl
def s_entry_isUpTo : SCode :=
 (.seq (.reg [⟨(some 4), .mv (.const (.bool false)), none⟩])
 (.seq (.reg [⟨(some 5), .mv (T 1), none⟩,
 ⟨(some 6), .bin .geq (T 5) (C (0)), none⟩,
 ⟨(some 7), .mv (T 6), none⟩,
 ⟨(some 8), .mv (T 1), (some (7, true))⟩,
 ⟨(some 9), .mv (T 0), (some (7, true))⟩,
 ⟨(some 10), .bin .leq (T 8) (T 9), (some (7, true))⟩,
 ⟨(some 11), .pick (T 7) (T 10) (.const (.bool false)), none⟩,
 ⟨(some 4), .mv (T 11), none⟩])
 .ret))
theorem e_entry_isUpTo : slimC Tryd.prog 12 (Tryd.f54.body.getD .skip) = s_entry_isUpTo := by kernel_rfl
theorem r_entry_isUpTo : slimRes Tryd.prog Tryd.f54 = some [.tmp 4] := by kernel_rfl
def s_strings_ContainsAny : SCode :=
 (.seq (.reg [⟨(some 4), .mv (.const (.bool false)), none⟩])
 (.seq (.reg [⟨(some 5), .mv (T 0), none⟩,
 ⟨(some 6), .mv (T 1), none⟩,
 ⟨(some 7), .call true n_strings_IndexAny [(T 5), (T 6)], none⟩,
 ⟨(some 8), .bin .geq (T 7) (C (0)), none⟩,
 ⟨(some 4), .mv (T 8), none⟩])
 .ret))
theorem e_strings_ContainsAny : slimC Tryd.prog 9 (Tryd.f55.body.getD .skip) = s_strings_ContainsAny := by kernel_rfl
theorem r_strings_ContainsAny : slimRes Tryd.prog Tryd.f55 = some [.tmp 4] := by kernel_rfl
def s_entry_fileOf : SCode :=
 (.seq (.reg [⟨(some 1), .box (T 0), none⟩,
 ⟨(some 2), .mv (.const (.string ⟨#[]⟩)), none⟩,
 ⟨(some 3), .mv (.const (.bool false)), none⟩])
 (.seq (.seq (.reg [⟨(some 4), .faddr 1 (T 1), none⟩,
 ⟨(some 5), .load none (T 4), none⟩])
 (.block 0
 (.seq (.reg [⟨(some 7), .bin .eql (T 5) (C (1)), none⟩,
 ⟨(some 6), .mv (T 7), none⟩])
 (.cond (T 6)
 (.seq (.reg [⟨(some 8), .faddr 0 (T 1), none⟩,
 ⟨(some 9), .load none (T 8), none⟩,
 ⟨(some 2), .mv (T 9), none⟩,
 ⟨(some 3), .mv (.const (.bool true)), none⟩])
 .ret)
 (.seq (.reg [⟨(some 11), .bin .eql (T 5) (C (4)), none⟩,
 ⟨(some 10), .mv (T 11), none⟩])
 (.cond (T 10)
 (.seq (.reg [⟨(some 12), .faddr 8 (T 1), none⟩,
 ⟨(some 13), .load none (T 12), none⟩,
 ⟨(some 2), .mv (T 13), none⟩,
 ⟨(some 3), .mv (.const (.bool true)), none⟩])
 .ret)
 .skip))))))
 (.seq (.reg [⟨(some 2), .mv (.const (.string ⟨#[]⟩)), none⟩,
 ⟨(some 3), .mv (.const (.bool false)), none⟩])
 .ret)))
theorem e_entry_fileOf : slimC Tryd.prog 14 (Tryd.f59.body.getD .skip) = s_entry_fileOf := by kernel_rfl
theorem r_entry_fileOf : slimRes Tryd.prog Tryd.f59 = some [.tmp 2, .tmp 3] := by kernel_rfl
def s_strings_splitSeq_1 : SCode :=
 (.seq (.seq (.reg [⟨(some 9), .load none (T 1), none⟩,
 ⟨(some 10), .len true (T 9), none⟩,
 ⟨(some 11), .bin .eql (T 10) (C (0)), none⟩])
 (.cond (T 11)
 (.seq (.block 0
 (.loop
 (.seq (.seq (.reg [⟨(some 12), .load none (T 2), none⟩,
 ⟨(some 13), .len true (T 12), none⟩,
 ⟨(some 14), .bin .gtr (T 13) (C (0)), none⟩])
 (.cond (T 14)
 .skip
 (.exit 0)))
 (.block 1
 (.seq (.reg [⟨(some 16), .load none (T 2), none⟩,
 ⟨(some 17), .call true n_utf8_DecodeRuneInString [(T 16)], none⟩,
 ⟨(some 15), .mv (T 17), none⟩,
 ⟨(some 18), .ext (T 15) 0, none⟩,
 ⟨(some 19), .ext (T 15) 1, none⟩,
 ⟨(some 5), .mv (T 18), none⟩,
 ⟨(some 6), .mv (T 19), none⟩])
 (.seq (.seq (.reg [⟨(some 20), .mv (T 0), none⟩,
 ⟨(some 21), .load none (T 2), none⟩,
 ⟨(some 22), .mv (T 6), none⟩,
 ⟨(some 23), .sls (T 21) none (some (T 22)), none⟩,
 ⟨(some 24), .callv true (T 20) [(T 23)], none⟩,
 ⟨(some 25), .un .not (T 24), none⟩])
 (.cond (T 25)
 .ret
 .skip))
 (.reg [⟨(some 26), .load none (T 2), none⟩,
 ⟨(some 27), .mv (T 6), none⟩,
 ⟨(some 28), .sls (T 26) (some (T 27)) none, none⟩,
 ⟨none, .store none (T 2) (T 28), none⟩])))))))
 .ret)
 .skip))
 (.seq (.block 2
 (.loop
 (.block 3
 (.seq (.reg [⟨(some 29), .load none (T 2), none⟩,
 ⟨(some 30), .load none (T 1), none⟩,
 ⟨(some 31), .call true n_strings_Index [(T 29), (T 30)], none⟩,
 ⟨(some 7), .mv (T 31), none⟩])
 (.seq (.seq (.reg [⟨(some 32), .mv (T 7), none⟩,
 ⟨(some 33), .bin .lss (T 32) (C (0)), none⟩])
 (.cond (T 33)
 (.exit 2)
 .skip))
 (.seq (.reg [⟨(some 34), .load none (T 2), none⟩,
 ⟨(some 35), .mv (T 7), none⟩,
 ⟨(some 36), .load none (T 3), none⟩,
 ⟨(some 37), .bin .add (T 35) (T 36), none⟩,
 ⟨(some 38), .sls (T 34) none (some (T 37)), none⟩,
 ⟨(some 8), .mv (T 38), none⟩])
 (.seq (.seq (.reg [⟨(some 39), .mv (T 0), none⟩,
 ⟨(some 40), .mv (T 8), none⟩,
 ⟨(some 41), .callv true (T 39) [(T 40)], none⟩,
 ⟨(some 42), .un .not (T 41), none⟩])
 (.cond (T 42)
 .ret
 .skip))
 (.reg [⟨(some 43), .load none (T 2), none⟩,
 ⟨(some 44), .mv (T 7), none⟩,
 ⟨(some 45), .load none (T 1), none⟩,
 ⟨(some 46), .len true (T 45), none⟩,
 ⟨(some 47), .bin .add (T 44) (T 46), none⟩,
 ⟨(some 48), .sls (T 43) (some (T 47)) none, none⟩,
 ⟨none, .store none (T 2) (T 48), none⟩]))))))))
 (.reg [⟨(some 49), .mv (T 0), none⟩,
 ⟨(some 50), .load none (T 2), none⟩,
 ⟨(some 51), .callv true (T 49) [(T 50)], none⟩])))
theorem e_strings_splitSeq_1 : slimC Tryd.prog 52 (Tryd.f62.body.getD .skip) = s_strings_splitSeq_1 := by kernel_rfl
theorem r_strings_splitSeq_1 : slimRes Tryd.prog Tryd.f62 = some [] := by kernel_rfl
def s_entry_above_1 : SCode :=
 (.seq (.reg [⟨(some 4), .load none (T 1), none⟩,
 ⟨(some 5), .call true n_strings_LastIndexByte [(T 4), (.const (.int .u8 (47)))], none⟩,
 ⟨(some 3), .mv (T 5), none⟩])
 (.block 0
 (.loop
 (.seq (.seq (.reg [⟨(some 6), .mv (T 3), none⟩,
 ⟨(some 7), .bin .geq (T 6) (C (0)), none⟩])
 (.cond (T 7)
 .skip
 (.exit 0)))
 (.seq (.block 1
 (.seq (.reg [⟨(some 12), .mv (T 0), none⟩,
 ⟨(some 13), .load none (T 1), none⟩,
 ⟨(some 14), .mv (T 3), none⟩,
 ⟨(some 15), .sls (T 13) none (some (T 14)), none⟩,
 ⟨(some 16), .callv true (T 12) [(T 15)], none⟩,
 ⟨(some 17), .un .not (T 16), none⟩])
 (.cond (T 17)
 .ret
 .skip)))
 (.reg [⟨(some 8), .load none (T 1), none⟩,
 ⟨(some 9), .mv (T 3), none⟩,
 ⟨(some 10), .sls (T 8) none (some (T 9)), none⟩,
 ⟨(some 11), .call true n_strings_LastIndexByte [(T 10), (.const (.int .u8 (47)))], none⟩,
 ⟨(some 3), .mv (T 11), none⟩]))))))
theorem e_entry_above_1 : slimC Tryd.prog 18 (Tryd.f65.body.getD .skip) = s_entry_above_1 := by kernel_rfl
theorem r_entry_above_1 : slimRes Tryd.prog Tryd.f65 = some [] := by kernel_rfl
end Go.Proofs.YtbmmdkbinlnogaaDoor.Aw
namespace Go.Proofs.YtbmmdkbinlnogaaDoor.Aw
open Go
set_option linter.unusedSimpArgs false
set_option linter.unusedVariables false
def lastN (s : List UInt8) (c : UInt8) : Nat → Int
  | 0 => -1
  | n + 1 => if s.getD n 0 = c then (n : Int) else lastN s c n
theorem lastN_lt {s : List UInt8} {c : UInt8} : ∀ {n : Nat}, lastN s c n < n
  | 0 => by simp [lastN]
  | n + 1 => by
    have := lastN_lt (s := s) (c := c) (n := n)
    rw [lastN]
    split <;> omega
theorem lastN_take {s : List UInt8} {c : UInt8} {m : Nat} (hm : m ≤ s.length) : ∀ {n : Nat}, n ≤ m → lastN (s.take m) c n = lastN s c n
  | 0, _ => rfl
  | n + 1, h => by
    rw [lastN, lastN, lastN_take hm (by omega)]
    have : (s.take m).getD n 0 = s.getD n 0 := by simp only [List.getD, List.getElem?_take, if_pos (show n < m by omega)]
    rw [this]
set_option maxRecDepth 100000 in
theorem LastIndexByteString_c [Tabs Tryd.prog] (s : List UInt8) (hs : s.length ≤ 1000000) (c : UInt8) : Con Tryd.prog n_bytealg_LastIndexByteString [str s, .sc (.int .u8 (c.toNat : Int))] (int (lastN s c s.length)) := by
  refine Con.of' mix Tryd.func46 rfl Tryd.ntmps46 e_bytealg_LastIndexByteString r_bytealg_LastIndexByteString (by simp) rfl rfl ?_
  unfold s_bytealg_LastIndexByteString
  obtain ⟨Z, hZ⟩ : ∃ Z, Z = lastN s c s.length := ⟨_, rfl⟩
  rw [← hZ]
  repeat (first | refine wA ?_ | refine wB ?_ | refine wC rfl ?_ | refine wD rfl ?_ | refine wE ?_ | refine wF (by omega) ?_ | ((first | refine wG ?_ | refine wH ?_ | refine wI ?_ | refine wJ ?_ | refine wK ?_ | refine wL ?_); simp (disch := omega) only [wP, wZ, undef, UInt8.reduceToNat, Nat.reduceOr, Nat.reduceAnd, Nat.reduceXor, Nat.reduceDiv, if_pos, if_neg, aStore, frz, AV.flat, ↓reduceIte, ne_eq, reduceCtorEq, Int.reduceToNat, Nat.reduceEqDiff, Nat.reduceAdd, Nat.reduceSub, Nat.reduceMul, Int.reduceAdd, Int.reduceMul, Int.reduceSub, Int.reduceLT, Int.reduceLE, Int.reduceEq, Int.reduceNe, Nat.reduceLeDiff, Nat.reduceLT, Int.reduceNeg, Nat.reducePow, Nat.reduceMod, ByteArray.size]))
  refine SWp.loop (α := Nat) (fun n => mk 19 0 [(0, str s), (1, .sc (.int .u8 (c.toNat : Int))), (5, int ((n : Int) - 1))] [])
    (fun n => n ≤ s.length ∧ Z = lastN s c n) (fun n => n) s.length ⟨Nat.le_refl _, hZ⟩ (le_mk rfl ?_ ?_ ?_) ?_
  · exact Nat.le_refl _
  iterate 2 (case _ => simp (disch := omega) only [wP, wZ, undef, UInt8.reduceToNat, Nat.reduceOr, Nat.reduceAnd, Nat.reduceXor, Nat.reduceDiv, if_pos, if_neg, aStore, frz, AV.flat, ↓reduceIte, ne_eq, reduceCtorEq, Int.reduceToNat, Nat.reduceEqDiff, Nat.reduceAdd, Nat.reduceSub, Nat.reduceMul, Int.reduceAdd, Int.reduceMul, Int.reduceSub, Int.reduceLT, Int.reduceLE, Int.reduceEq, Int.reduceNe, Nat.reduceLeDiff, Nat.reduceLT, Int.reduceNeg, Nat.reducePow, Nat.reduceMod, ByteArray.size])
  rintro n ⟨hn, hz⟩ -
  have hc := c.toNat_lt
  cases n with
  | zero =>
    have d : decide ((0 : Int) ≤ ((0 : Nat) : Int) - 1) = false := decide_eq_false (by omega)
    rw [lastN] at hz
    subst hz
    repeat (first | refine wA ?_ | refine wB ?_ | refine wC rfl ?_ | refine wD rfl ?_ | refine wE ?_ | refine wF (by omega) ?_ | ((first | refine wG ?_ | refine wH ?_ | refine wI ?_ | refine wJ ?_ | refine wK ?_ | refine wL ?_); simp (disch := omega) only [wP, wZ, undef, UInt8.reduceToNat, Nat.reduceOr, Nat.reduceAnd, Nat.reduceXor, Nat.reduceDiv, if_pos, if_neg, aStore, frz, AV.flat, ↓reduceIte, ne_eq, reduceCtorEq, Int.reduceToNat, Nat.reduceEqDiff, Nat.reduceAdd, Nat.reduceSub, Nat.reduceMul, Int.reduceAdd, Int.reduceMul, Int.reduceSub, Int.reduceLT, Int.reduceLE, Int.reduceEq, Int.reduceNe, Nat.reduceLeDiff, Nat.reduceLT, Int.reduceNeg, Nat.reducePow, Nat.reduceMod, ByteArray.size, d]))
  | succ n =>
    have e1 : ((n + 1 : Nat) : Int) - 1 = (n : Int) := by omega
    rw [e1]
    have d : decide ((0 : Int) ≤ (n : Int)) = true := decide_eq_true (by omega)
    rw [lastN] at hz
    have hx := (s.getD n 0).toNat_lt
    by_cases c0 : s.getD n 0 = c
    · have d0 : decide (((s.getD n 0).toNat : Int) = (c.toNat : Int)) = true := decide_eq_true (by rw [c0])
      rw [if_pos c0] at hz
      subst hz
      repeat (first | refine wA ?_ | refine wB ?_ | refine wC rfl ?_ | refine wD rfl ?_ | refine wE ?_ | refine wF (by omega) ?_ | ((first | refine wG ?_ | refine wH ?_ | refine wI ?_ | refine wJ ?_ | refine wK ?_ | refine wL ?_); simp (disch := omega) only [wP, wZ, undef, UInt8.reduceToNat, Nat.reduceOr, Nat.reduceAnd, Nat.reduceXor, Nat.reduceDiv, if_pos, if_neg, aStore, frz, AV.flat, ↓reduceIte, ne_eq, reduceCtorEq, Int.reduceToNat, Nat.reduceEqDiff, Nat.reduceAdd, Nat.reduceSub, Nat.reduceMul, Int.reduceAdd, Int.reduceMul, Int.reduceSub, Int.reduceLT, Int.reduceLE, Int.reduceEq, Int.reduceNe, Nat.reduceLeDiff, Nat.reduceLT, Int.reduceNeg, Nat.reducePow, Nat.reduceMod, ByteArray.size, d, d0]))
    · have d0 : decide (((s.getD n 0).toNat : Int) = (c.toNat : Int)) = false := decide_eq_false (fun h => c0 (UInt8.toNat_inj.1 (by omega)))
      rw [if_neg c0] at hz
      repeat (first | refine wA ?_ | refine wB ?_ | refine wC rfl ?_ | refine wD rfl ?_ | refine wE ?_ | refine wF (by omega) ?_ | ((first | refine wG ?_ | refine wH ?_ | refine wI ?_ | refine wJ ?_ | refine wK ?_ | refine wL ?_); simp (disch := omega) only [wP, wZ, undef, UInt8.reduceToNat, Nat.reduceOr, Nat.reduceAnd, Nat.reduceXor, Nat.reduceDiv, if_pos, if_neg, aStore, frz, AV.flat, ↓reduceIte, ne_eq, reduceCtorEq, Int.reduceToNat, Nat.reduceEqDiff, Nat.reduceAdd, Nat.reduceSub, Nat.reduceMul, Int.reduceAdd, Int.reduceMul, Int.reduceSub, Int.reduceLT, Int.reduceLE, Int.reduceEq, Int.reduceNe, Nat.reduceLeDiff, Nat.reduceLT, Int.reduceNeg, Nat.reducePow, Nat.reduceMod, ByteArray.size, d, d0]))
      refine At.of n ⟨by omega, hz⟩ (by omega) rfl rfl (Nat.le_refl _) ?_ ?_
      iterate 2 (case _ => simp (disch := omega) only [wP, wZ, undef, UInt8.reduceToNat, Nat.reduceOr, Nat.reduceAnd, Nat.reduceXor, Nat.reduceDiv, if_pos, if_neg, aStore, frz, AV.flat, ↓reduceIte, ne_eq, reduceCtorEq, Int.reduceToNat, Nat.reduceEqDiff, Nat.reduceAdd, Nat.reduceSub, Nat.reduceMul, Int.reduceAdd, Int.reduceMul, Int.reduceSub, Int.reduceLT, Int.reduceLE, Int.reduceEq, Int.reduceNe, Nat.reduceLeDiff, Nat.reduceLT, Int.reduceNeg, Nat.reducePow, Nat.reduceMod, ByteArray.size])
set_option maxRecDepth 100000 in
theorem LastIndexByte_c [Tabs Tryd.prog] (s : List UInt8) (hs : s.length ≤ 1000000) (c : UInt8) : Con Tryd.prog n_strings_LastIndexByte [str s, .sc (.int .u8 (c.toNat : Int))] (int (lastN s c s.length)) := by
  refine Con.of' mix Tryd.func25 rfl Tryd.ntmps25 e_strings_LastIndexByte r_strings_LastIndexByte (by simp) rfl rfl ?_
  unfold s_strings_LastIndexByte
  repeat (first | refine wA ?_ | refine wB ?_ | refine wC rfl ?_ | refine wD rfl ?_ | refine wE ?_ | refine wF (by omega) ?_ | ((first | refine wG ?_ | refine wH ?_ | refine wI ?_ | refine wJ ?_ | refine wK ?_ | refine wL ?_); simp (disch := omega) only [wP, wZ, undef, UInt8.reduceToNat, Nat.reduceOr, Nat.reduceAnd, Nat.reduceXor, Nat.reduceDiv, if_pos, if_neg, aStore, frz, AV.flat, ↓reduceIte, ne_eq, reduceCtorEq, Int.reduceToNat, Nat.reduceEqDiff, Nat.reduceAdd, Nat.reduceSub, Nat.reduceMul, Int.reduceAdd, Int.reduceMul, Int.reduceSub, Int.reduceLT, Int.reduceLE, Int.reduceEq, Int.reduceNe, Nat.reduceLeDiff, Nat.reduceLT, Int.reduceNeg, Nat.reducePow, Nat.reduceMod, ByteArray.size]))
  refine goC_p _ (.inl ⟨rfl, LastIndexByteString_c s hs c⟩) ?_
  repeat (first | refine wA ?_ | refine wB ?_ | refine wC rfl ?_ | refine wD rfl ?_ | refine wE ?_ | refine wF (by omega) ?_ | ((first | refine wG ?_ | refine wH ?_ | refine wI ?_ | refine wJ ?_ | refine wK ?_ | refine wL ?_); simp (disch := omega) only [wP, wZ, undef, UInt8.reduceToNat, Nat.reduceOr, Nat.reduceAnd, Nat.reduceXor, Nat.reduceDiv, if_pos, if_neg, aStore, frz, AV.flat, ↓reduceIte, ne_eq, reduceCtorEq, Int.reduceToNat, Nat.reduceEqDiff, Nat.reduceAdd, Nat.reduceSub, Nat.reduceMul, Int.reduceAdd, Int.reduceMul, Int.reduceSub, Int.reduceLT, Int.reduceLE, Int.reduceEq, Int.reduceNe, Nat.reduceLeDiff, Nat.reduceLT, Int.reduceNeg, Nat.reducePow, Nat.reduceMod, ByteArray.size]))
end Go.Proofs.YtbmmdkbinlnogaaDoor.Aw
namespace Go.Proofs.YtbmmdkbinlnogaaDoor.Aw
open Go
set_option linter.unusedSimpArgs false
set_option linter.unusedVariables false
def upsN (s : List UInt8) : Nat → List (List UInt8)
  | 0 => []
  | n + 1 => if s.getD n 0 = 47 then s.take n :: upsN s n else upsN s n
theorem ups_last {s : List UInt8} : ∀ {n : Nat}, upsN s n = if lastN s 47 n < 0 then [] else s.take (lastN s 47 n).toNat :: upsN s (lastN s 47 n).toNat
  | 0 => rfl
  | n + 1 => by
    rw [upsN, lastN]
    split
    · rw [if_neg (by omega), Int.toNat_natCast]
    · exact ups_last
def txt (s : List UInt8) : Value := .string ⟨s.toArray⟩
theorem okF_mk {X : IterD} {N gc id g : Nat} {l : List (Nat × AV)} {cells : List AV} (h1 : ∀ p ∈ l, (∃ v, p.2 = .sc v) ∨ p.2 = .op id g 0) (h2 : ∀ c ∈ cells, ∃ v, c = .sc v) (h3 : ∃ b, X.Gi.ob id g = some (some b)) (h4 : ∀ i m ob, X.Gi.ob i m = some ob → i = id ∧ m = g) : okF X (mk N gc l [(id, g, .row false cells)]) := by
  refine ⟨fun t => ?_, fun i m nl cs h => ?_, fun i m ob h => ?_⟩
  · rcases look_or l t with ⟨p, hp, rfl, e⟩ | e
    · show look l p.1 = _ ∨ _
      rw [show (mk N gc l [(id, g, .row false cells)]).tm p.1 = look l p.1 from rfl, e]
      rcases h1 p hp with ⟨v, e⟩ | e
      · exact .inr (.inl ⟨v, e⟩)
      · exact .inr (.inr ⟨id, g, 0, e, h3⟩)
    · exact .inl e
  · simp only [mk, lookH] at h
    split at h
    · rename_i e
      subst e
      simp only [Option.some.injEq, Prod.mk.injEq, AO.row.injEq] at h
      obtain ⟨rfl, rfl, rfl⟩ := h
      exact ⟨h3, h2⟩
    · cases h
  · obtain ⟨rfl, rfl⟩ := h4 i m ob h
    exact ⟨.row false cells, by simp [mk, lookH]⟩
theorem startJ_mk (N l id g gc : Nat) (cs : List AV) : startJ N l [.op id g 0] [(id, g, cs)] gc = mk N gc [(0, .sc (.func (.yield l) #[] #[])), (1, .op id g 0)] [(id, g, .row false cs)] := by
  unfold startJ mk
  congr 1
  funext t
  match t with
  | 0 => rfl
  | 1 => rfl
  | n + 2 => rfl
theorem drop_get {α : Type} {l r : List α} {x : α} {k : Nat} (h : l.drop k = x :: r) : l[k]? = some x ∧ k < l.length := by
  have h1 : (l.drop k)[0]? = some x := by rw [h]; rfl
  rw [List.getElem?_drop] at h1
  refine ⟨h1, ?_⟩
  apply Decidable.byContradiction
  intro h2
  rw [List.drop_eq_nil_of_le (by omega)] at h
  cases h
theorem drop_next {α : Type} {l r : List α} {x : α} {k : Nat} (h : l.drop k = x :: r) : l.drop (k + 1) = r := by
  rw [← List.drop_drop, h]
  rfl
set_option maxHeartbeats 1000000 in
set_option maxRecDepth 100000 in
theorem above_it [Tabs Tryd.prog] (id g : Nat) (s : List UInt8) (hs : s.length ≤ 1000000) : ItCon Tryd.prog n_entry_above_1 [.op id g 0] [(id, g, [str s])] ((upsN s s.length).map txt) := by
  refine ItCon.of (gc := g + 1) Tryd.func65 rfl Tryd.ntmps65 e_entry_above_1 (by kernel_rfl) (by kernel_rfl) r_entry_above_1 (by simp) (by simp [AV.gl.glL, AV.gl]) (by simp [str]) (by simp) (by simp) ?_
  intro X hX hxs hob hob2
  have h3 := hob2 (id, g, [str s]) (by simp)
  have h4 : ∀ i m ob, X.Gi.ob i m = some ob → i = id ∧ m = g := fun i m ob h => by
    obtain ⟨q, hq, e1, e2⟩ := hob i m ob h
    simp only [List.mem_singleton] at hq
    subst hq
    exact ⟨e1.symm, e2.symm⟩
  have hcell : ∀ c ∈ [str s], ∃ v, c = AV.sc v := by simp [str]
  obtain ⟨Y, hY⟩ : ∃ Y, Y = AV.sc (.func (.yield X.l) #[] #[]) := ⟨_, rfl⟩
  obtain ⟨F, hF⟩ : ∃ F : Nat → ASt, F = fun n => mk 18 (g + 1) [(0, Y), (1, .op id g 0), (3, int (lastN s 47 n))] [(id, g, .row false [str s])] := ⟨_, rfl⟩
  have okf : ∀ n, okF X (F n) := fun n => by
    rw [hF]
    refine okF_mk ?_ hcell h3 h4
    simp [hY, int]
  rw [startJ_mk, ← hY]
  unfold s_entry_above_1
  refine SJ.seq (SJ.of hX mix fun L => ?_)
  repeat (first | refine wA ?_ | refine wB ?_ | refine wC rfl ?_ | refine wD rfl ?_ | refine wE ?_ | refine wF (by omega) ?_ | ((first | refine wG ?_ | refine wH ?_ | refine wI ?_ | refine wJ ?_ | refine wK ?_ | refine wL ?_); simp (disch := omega) only [wP, wZ, undef, UInt8.reduceToNat, Nat.reduceOr, Nat.reduceAnd, Nat.reduceXor, Nat.reduceDiv, if_pos, if_neg, aStore, frz, AV.flat, ↓reduceIte, ne_eq, reduceCtorEq, Int.reduceToNat, Nat.reduceEqDiff, Nat.reduceAdd, Nat.reduceSub, Nat.reduceMul, Int.reduceAdd, Int.reduceMul, Int.reduceSub, Int.reduceLT, Int.reduceLE, Int.reduceEq, Int.reduceNe, Nat.reduceLeDiff, Nat.reduceLT, Int.reduceNeg, Nat.reducePow, Nat.reduceMod, ByteArray.size]))
  refine goC_p _ (.inl ⟨rfl, LastIndexByte_c s hs 47⟩) ?_
  repeat (first | refine wA ?_ | refine wB ?_ | refine wC rfl ?_ | refine wD rfl ?_ | refine wE ?_ | refine wF (by omega) ?_ | ((first | refine wG ?_ | refine wH ?_ | refine wI ?_ | refine wJ ?_ | refine wK ?_ | refine wL ?_); simp (disch := omega) only [wP, wZ, undef, UInt8.reduceToNat, Nat.reduceOr, Nat.reduceAnd, Nat.reduceXor, Nat.reduceDiv, if_pos, if_neg, aStore, frz, AV.flat, ↓reduceIte, ne_eq, reduceCtorEq, Int.reduceToNat, Nat.reduceEqDiff, Nat.reduceAdd, Nat.reduceSub, Nat.reduceMul, Int.reduceAdd, Int.reduceMul, Int.reduceSub, Int.reduceLT, Int.reduceLE, Int.reduceEq, Int.reduceNe, Nat.reduceLeDiff, Nat.reduceLT, Int.reduceNeg, Nat.reducePow, Nat.reduceMod, ByteArray.size]))
  refine ⟨F s.length, ?_, okf _, ?_⟩
  · rw [hF]
    refine le_mk rfl (Nat.le_refl _) ?_ ?_
    iterate 2 (case _ => simp (disch := omega) only [wP, wZ, undef, UInt8.reduceToNat, Nat.reduceOr, Nat.reduceAnd, Nat.reduceXor, Nat.reduceDiv, if_pos, if_neg, aStore, frz, AV.flat, ↓reduceIte, ne_eq, reduceCtorEq, Int.reduceToNat, Nat.reduceEqDiff, Nat.reduceAdd, Nat.reduceSub, Nat.reduceMul, Int.reduceAdd, Int.reduceMul, Int.reduceSub, Int.reduceLT, Int.reduceLE, Int.reduceEq, Int.reduceNe, Nat.reduceLeDiff, Nat.reduceLT, Int.reduceNeg, Nat.reducePow, Nat.reduceMod, ByteArray.size])
  refine SJ.block ?_
  refine SJ.loop (fun p : Nat × Nat => F p.1) (fun p => some p.2) (fun p => p.1 ≤ s.length ∧ p.2 ≤ (upsN s s.length).length ∧ (upsN s s.length).drop p.2 = upsN s p.1) (fun p => p.1) (s.length, 0) ⟨Nat.le_refl _, Nat.zero_le _, rfl⟩ ?_
  rintro ⟨n, k⟩ ⟨hn, hk, hd⟩
  simp only at hn hk hd ⊢
  have hl := lastN_lt (s := s) (c := 47) (n := n)
  obtain ⟨z, hz⟩ : ∃ z, z = lastN s 47 n := ⟨_, rfl⟩
  rw [← hz] at hl
  refine SJ.seq (SJ.seq (SJ.of hX mix fun L => ?_))
  have hFn : F n = mk 18 (g + 1) [(0, Y), (1, .op id g 0), (3, int z)] [(id, g, .row false [str s])] := by rw [hF, hz]
  rw [hFn]
  repeat (first | refine wA ?_ | refine wB ?_ | refine wC rfl ?_ | refine wD rfl ?_ | refine wE ?_ | refine wF (by omega) ?_ | ((first | refine wG ?_ | refine wH ?_ | refine wI ?_ | refine wJ ?_ | refine wK ?_ | refine wL ?_); simp (disch := omega) only [wP, wZ, undef, UInt8.reduceToNat, Nat.reduceOr, Nat.reduceAnd, Nat.reduceXor, Nat.reduceDiv, if_pos, if_neg, aStore, frz, AV.flat, ↓reduceIte, ne_eq, reduceCtorEq, Int.reduceToNat, Nat.reduceEqDiff, Nat.reduceAdd, Nat.reduceSub, Nat.reduceMul, Int.reduceAdd, Int.reduceMul, Int.reduceSub, Int.reduceLT, Int.reduceLE, Int.reduceEq, Int.reduceNe, Nat.reduceLeDiff, Nat.reduceLT, Int.reduceNeg, Nat.reducePow, Nat.reduceMod, ByteArray.size]))
  refine ⟨mk 18 (g + 1) [(0, Y), (1, .op id g 0), (3, int z), (7, .sc (.bool (decide (0 ≤ z))))] [(id, g, .row false [str s])], ?_, ?_, ?_⟩
  · refine le_mk rfl (Nat.le_refl _) ?_ ?_
    iterate 2 (case _ => simp (disch := omega) only [wP, wZ, undef, UInt8.reduceToNat, Nat.reduceOr, Nat.reduceAnd, Nat.reduceXor, Nat.reduceDiv, if_pos, if_neg, aStore, frz, AV.flat, ↓reduceIte, ne_eq, reduceCtorEq, Int.reduceToNat, Nat.reduceEqDiff, Nat.reduceAdd, Nat.reduceSub, Nat.reduceMul, Int.reduceAdd, Int.reduceMul, Int.reduceSub, Int.reduceLT, Int.reduceLE, Int.reduceEq, Int.reduceNe, Nat.reduceLeDiff, Nat.reduceLT, Int.reduceNeg, Nat.reducePow, Nat.reduceMod, ByteArray.size])
  · refine okF_mk ?_ hcell h3 h4
    simp [hY, int]
  refine SJ.cond (t := decide (0 ≤ z)) (by rfl) (fun h => ?_) (fun h => ?_)
  case _ =>
    have h0 : 0 ≤ z := of_decide_eq_true h
    refine SJ.skip ?_
    obtain ⟨m, rfl⟩ : ∃ m : Nat, z = m := ⟨z.toNat, by omega⟩
    have hd2 := hd
    rw [ups_last (n := n), ← hz, if_neg (by omega), Int.toNat_natCast] at hd2
    obtain ⟨g1, g2⟩ := drop_get hd2
    have hvk : X.xs[k]? = some (txt (s.take m)) := by rw [hxs, List.getElem?_map, g1]; rfl
    refine SJ.seq (SJ.block (SJ.seq ?_))
    refine SJ.yield hX (A := [_, _, _, _]) (B := [_]) (F := mk 18 (g + 1) [(0, Y), (1, .op id g 0), (3, int (m : Int))] [(id, g, .row false [str s])]) (v := txt (s.take m)) ?_ ?_ (by show 16 < 18; omega) hvk ?_
    · repeat (first | refine wA ?_ | refine wB ?_ | refine wC rfl ?_ | refine wD rfl ?_ | refine wE ?_ | refine wF (by omega) ?_ | ((first | refine wG ?_ | refine wH ?_ | refine wI ?_ | refine wJ ?_ | refine wK ?_ | refine wL ?_); simp (disch := omega) only [wP, wZ, undef, UInt8.reduceToNat, Nat.reduceOr, Nat.reduceAnd, Nat.reduceXor, Nat.reduceDiv, if_pos, if_neg, aStore, frz, AV.flat, ↓reduceIte, ne_eq, reduceCtorEq, Int.reduceToNat, Nat.reduceEqDiff, Nat.reduceAdd, Nat.reduceSub, Nat.reduceMul, Int.reduceAdd, Int.reduceMul, Int.reduceSub, Int.reduceLT, Int.reduceLE, Int.reduceEq, Int.reduceNe, Nat.reduceLeDiff, Nat.reduceLT, Int.reduceNeg, Nat.reducePow, Nat.reduceMod, ByteArray.size]))
      refine ⟨rfl, le_mk rfl (Nat.le_refl _) ?_ ?_⟩
      iterate 2 (case _ => simp (disch := omega) only [wP, wZ, undef, UInt8.reduceToNat, Nat.reduceOr, Nat.reduceAnd, Nat.reduceXor, Nat.reduceDiv, if_pos, if_neg, aStore, frz, AV.flat, ↓reduceIte, ne_eq, reduceCtorEq, Int.reduceToNat, Nat.reduceEqDiff, Nat.reduceAdd, Nat.reduceSub, Nat.reduceMul, Int.reduceAdd, Int.reduceMul, Int.reduceSub, Int.reduceLT, Int.reduceLE, Int.reduceEq, Int.reduceNe, Nat.reduceLeDiff, Nat.reduceLT, Int.reduceNeg, Nat.reducePow, Nat.reduceMod, ByteArray.size])
    · refine okF_mk ?_ hcell h3 h4
      simp [hY, int]
    · intro b
      cases b with
      | false =>
        repeat (first | refine wA ?_ | refine wB ?_ | refine wC rfl ?_ | refine wD rfl ?_ | refine wE ?_ | refine wF (by omega) ?_ | ((first | refine wG ?_ | refine wH ?_ | refine wI ?_ | refine wJ ?_ | refine wK ?_ | refine wL ?_); simp (disch := omega) only [wP, wZ, undef, UInt8.reduceToNat, Nat.reduceOr, Nat.reduceAnd, Nat.reduceXor, Nat.reduceDiv, if_pos, if_neg, aStore, frz, AV.flat, ↓reduceIte, ne_eq, reduceCtorEq, Int.reduceToNat, Nat.reduceEqDiff, Nat.reduceAdd, Nat.reduceSub, Nat.reduceMul, Int.reduceAdd, Int.reduceMul, Int.reduceSub, Int.reduceLT, Int.reduceLE, Int.reduceEq, Int.reduceNe, Nat.reduceLeDiff, Nat.reduceLT, Int.reduceNeg, Nat.reducePow, Nat.reduceMod, ByteArray.size]))
        refine ⟨mk 18 (g + 1) [(0, Y), (1, .op id g 0), (17, .sc (.bool true))] [(id, g, .row false [str s])], le_mk rfl (Nat.le_refl _) ?_ ?_, ?_, ?_⟩
        iterate 2 (case _ => simp (disch := omega) only [wP, wZ, undef, UInt8.reduceToNat, Nat.reduceOr, Nat.reduceAnd, Nat.reduceXor, Nat.reduceDiv, if_pos, if_neg, aStore, frz, AV.flat, ↓reduceIte, ne_eq, reduceCtorEq, Int.reduceToNat, Nat.reduceEqDiff, Nat.reduceAdd, Nat.reduceSub, Nat.reduceMul, Int.reduceAdd, Int.reduceMul, Int.reduceSub, Int.reduceLT, Int.reduceLE, Int.reduceEq, Int.reduceNe, Nat.reduceLeDiff, Nat.reduceLT, Int.reduceNeg, Nat.reducePow, Nat.reduceMod, ByteArray.size])
        · refine okF_mk ?_ hcell h3 h4
          simp [hY, int]
        refine SJ.cond (t := true) (by rfl) (fun h => ?_) (fun h => by cases h)
        refine SJ.ret ?_
        exact .inl rfl
      | true =>
        repeat (first | refine wA ?_ | refine wB ?_ | refine wC rfl ?_ | refine wD rfl ?_ | refine wE ?_ | refine wF (by omega) ?_ | ((first | refine wG ?_ | refine wH ?_ | refine wI ?_ | refine wJ ?_ | refine wK ?_ | refine wL ?_); simp (disch := omega) only [wP, wZ, undef, UInt8.reduceToNat, Nat.reduceOr, Nat.reduceAnd, Nat.reduceXor, Nat.reduceDiv, if_pos, if_neg, aStore, frz, AV.flat, ↓reduceIte, ne_eq, reduceCtorEq, Int.reduceToNat, Nat.reduceEqDiff, Nat.reduceAdd, Nat.reduceSub, Nat.reduceMul, Int.reduceAdd, Int.reduceMul, Int.reduceSub, Int.reduceLT, Int.reduceLE, Int.reduceEq, Int.reduceNe, Nat.reduceLeDiff, Nat.reduceLT, Int.reduceNeg, Nat.reducePow, Nat.reduceMod, ByteArray.size]))
        refine ⟨mk 18 (g + 1) [(0, Y), (1, .op id g 0), (3, int (m : Int)), (17, .sc (.bool false))] [(id, g, .row false [str s])], le_mk rfl (Nat.le_refl _) ?_ ?_, ?_, ?_⟩
        iterate 2 (case _ => simp (disch := omega) only [wP, wZ, undef, UInt8.reduceToNat, Nat.reduceOr, Nat.reduceAnd, Nat.reduceXor, Nat.reduceDiv, if_pos, if_neg, aStore, frz, AV.flat, ↓reduceIte, ne_eq, reduceCtorEq, Int.reduceToNat, Nat.reduceEqDiff, Nat.reduceAdd, Nat.reduceSub, Nat.reduceMul, Int.reduceAdd, Int.reduceMul, Int.reduceSub, Int.reduceLT, Int.reduceLE, Int.reduceEq, Int.reduceNe, Nat.reduceLeDiff, Nat.reduceLT, Int.reduceNeg, Nat.reducePow, Nat.reduceMod, ByteArray.size])
        · refine okF_mk ?_ hcell h3 h4
          simp [hY, int]
        refine SJ.cond (t := false) (by rfl) (fun h => by cases h) (fun h => ?_)
        refine SJ.skip ?_
        refine SJ.of hX mix fun L => ?_
        repeat (first | refine wA ?_ | refine wB ?_ | refine wC rfl ?_ | refine wD rfl ?_ | refine wE ?_ | refine wF (by omega) ?_ | ((first | refine wG ?_ | refine wH ?_ | refine wI ?_ | refine wJ ?_ | refine wK ?_ | refine wL ?_); simp (disch := omega) only [wP, wZ, undef, UInt8.reduceToNat, Nat.reduceOr, Nat.reduceAnd, Nat.reduceXor, Nat.reduceDiv, if_pos, if_neg, aStore, frz, AV.flat, ↓reduceIte, ne_eq, reduceCtorEq, Int.reduceToNat, Nat.reduceEqDiff, Nat.reduceAdd, Nat.reduceSub, Nat.reduceMul, Int.reduceAdd, Int.reduceMul, Int.reduceSub, Int.reduceLT, Int.reduceLE, Int.reduceEq, Int.reduceNe, Nat.reduceLeDiff, Nat.reduceLT, Int.reduceNeg, Nat.reducePow, Nat.reduceMod, ByteArray.size]))
        refine goC_p _ (.inl ⟨rfl, LastIndexByte_c (s.take m) (by rw [List.length_take]; omega) 47⟩) ?_
        rw [List.length_take, Nat.min_eq_left (by omega), lastN_take (by omega) (Nat.le_refl _)]
        repeat (first | refine wA ?_ | refine wB ?_ | refine wC rfl ?_ | refine wD rfl ?_ | refine wE ?_ | refine wF (by omega) ?_ | ((first | refine wG ?_ | refine wH ?_ | refine wI ?_ | refine wJ ?_ | refine wK ?_ | refine wL ?_); simp (disch := omega) only [wP, wZ, undef, UInt8.reduceToNat, Nat.reduceOr, Nat.reduceAnd, Nat.reduceXor, Nat.reduceDiv, if_pos, if_neg, aStore, frz, AV.flat, ↓reduceIte, ne_eq, reduceCtorEq, Int.reduceToNat, Nat.reduceEqDiff, Nat.reduceAdd, Nat.reduceSub, Nat.reduceMul, Int.reduceAdd, Int.reduceMul, Int.reduceSub, Int.reduceLT, Int.reduceLE, Int.reduceEq, Int.reduceNe, Nat.reduceLeDiff, Nat.reduceLT, Int.reduceNeg, Nat.reducePow, Nat.reduceMod, ByteArray.size]))
        refine ⟨F m, ?_, okf _, (m, k + 1), ⟨by simp only; omega, g2, drop_next hd2⟩, by simp only; omega, rfl, rfl⟩
        rw [hF]
        refine le_mk rfl (Nat.le_refl _) ?_ ?_
        iterate 2 (case _ => simp (disch := omega) only [wP, wZ, undef, UInt8.reduceToNat, Nat.reduceOr, Nat.reduceAnd, Nat.reduceXor, Nat.reduceDiv, if_pos, if_neg, aStore, frz, AV.flat, ↓reduceIte, ne_eq, reduceCtorEq, Int.reduceToNat, Nat.reduceEqDiff, Nat.reduceAdd, Nat.reduceSub, Nat.reduceMul, Int.reduceAdd, Int.reduceMul, Int.reduceSub, Int.reduceLT, Int.reduceLE, Int.reduceEq, Int.reduceNe, Nat.reduceLeDiff, Nat.reduceLT, Int.reduceNeg, Nat.reducePow, Nat.reduceMod, ByteArray.size])
  case _ =>
    refine SJ.exit ?_
    have h0 : z < 0 := by simpa using h
    have hd2 := hd
    rw [ups_last (n := n), ← hz, if_pos h0] at hd2
    refine .inr ?_
    have := List.drop_eq_nil_iff.1 hd2
    show some k = _
    congr 1
    omega
end Go.Proofs.YtbmmdkbinlnogaaDoor.Aw
namespace Go.Proofs
open Go.Shelf
def Tryd.lays119_ren : Go.Shelf.Ren := ⟨fun | 119 => 92 | n => n, fun | 21 => 21 | 4 => 4 | n => n, fun | n => n⟩
theorem Tryd.lays119 : Go.Proofs.Lays.n119 Tryd.prog Tryd.lays119_ren := {
  mixed := by kernel_rfl
  f119 := Tryd.func92.trans (congrArg some (by kernel_rfl))
  t4 := Tryd.underlying4
  a4 := Tryd.isAgg4
  z4 := Tryd.sizeOf4
  v4 := Tryd.zeroValue4
  t21 := Tryd.underlying21
  a21 := Tryd.isAgg21
  z21 := Tryd.sizeOf21
  v21 := Tryd.zeroValue21 }
theorem Tryd.utf8_ValidRune (r : Int) (w : World) :
    Calls Tryd.prog 92 #[.int .i32 r] w fun e w' => e = .returned (.bool (Lib.validRune r)) ∧ w' = w := Any.utf8_ValidRune Tryd.lays119 r w
def Tryd.lays106_ren : Go.Shelf.Ren := ⟨fun | 106 => 39 | 213 => 58 | 265 => 77 | n => n, fun | 9 => 9 | 3 => 3 | n => n, fun | n => n⟩
theorem Tryd.lays106 : Go.Proofs.Lays.n106 Tryd.prog Tryd.lays106_ren := {
  mixed := by kernel_rfl
  f106 := Tryd.func39.trans (congrArg some (by kernel_rfl))
  f213 := Tryd.func58.trans (congrArg some (by kernel_rfl))
  f265 := Tryd.func77.trans (congrArg some (by kernel_rfl))
  t3 := Tryd.underlying3
  a3 := Tryd.isAgg3
  z3 := Tryd.sizeOf3
  v3 := Tryd.zeroValue3
  t9 := Tryd.underlying9
  a9 := Tryd.isAgg9
  z9 := Tryd.sizeOf9
  v9 := Tryd.zeroValue9 }
open Go.RowKit in
theorem Tryd.strings_Compare (a b : ByteArray) (w : World) :
    Calls Tryd.prog 39 #[.string a, .string b] w fun e w' => e = .returned (.int .i64 (Lib.compareBytes a.data.toList b.data.toList)) ∧ w' = w := Any.strings_Compare Tryd.lays106 a b w
def Tryd.lays137_ren : Go.Shelf.Ren := ⟨fun | 137 => 27 | 217 => 47 | 266 => 61 | n => n, fun | 9 => 9 | 5 => 5 | 3 => 3 | n => n, fun | n => n⟩
theorem Tryd.lays137 : Go.Proofs.Lays.n137 Tryd.prog Tryd.lays137_ren := {
  mixed := by kernel_rfl
  f137 := Tryd.func27.trans (congrArg some (by kernel_rfl))
  f217 := Tryd.func47.trans (congrArg some (by kernel_rfl))
  f266 := Tryd.func61.trans (congrArg some (by kernel_rfl))
  t3 := Tryd.underlying3
  a3 := Tryd.isAgg3
  z3 := Tryd.sizeOf3
  v3 := Tryd.zeroValue3
  t5 := Tryd.underlying5
  a5 := Tryd.isAgg5
  z5 := Tryd.sizeOf5
  v5 := Tryd.zeroValue5
  t9 := Tryd.underlying9
  a9 := Tryd.isAgg9
  z9 := Tryd.sizeOf9
  v9 := Tryd.zeroValue9 }
open Go.RowKit in
theorem Tryd.strings_IndexByte (s : ByteArray) (c : Int) (w : World) :
    Calls Tryd.prog 27 #[.string s, .int .u8 c] w fun e w' => e = .returned (.int .i64 (Lib.indexByte s.data.toList c.toNat.toUInt8)) ∧ w' = w := Any.strings_IndexByte Tryd.lays137 s c w
def Tryd.lays143_ren : Go.Shelf.Ren := ⟨fun | 143 => 64 | 219 => 79 | 217 => 47 | 225 => 89 | 224 => 90 | 267 => 91 | 266 => 61 | 314 => 94 | n => n, fun | 9 => 9 | 3 => 3 | 4 => 4 | 5 => 5 | 46 => 77 | 146 => 118 | 51 => 93 | n => n, fun | 1 => 0 | n => n⟩
theorem Tryd.lays143 : Go.Proofs.Lays.n143 Tryd.prog Tryd.lays143_ren := {
  mixed := by kernel_rfl
  f143 := Tryd.func64.trans (congrArg some (by kernel_rfl))
  f217 := Tryd.func47.trans (congrArg some (by kernel_rfl))
  f219 := Tryd.func79.trans (congrArg some (by kernel_rfl))
  f224 := Tryd.func90.trans (congrArg some (by kernel_rfl))
  f225 := Tryd.func89.trans (congrArg some (by kernel_rfl))
  f266 := Tryd.func61.trans (congrArg some (by kernel_rfl))
  f267 := Tryd.func91.trans (congrArg some (by kernel_rfl))
  f314 := Tryd.func94.trans (congrArg some (by kernel_rfl))
  t3 := Tryd.underlying3
  a3 := Tryd.isAgg3
  z3 := Tryd.sizeOf3
  v3 := Tryd.zeroValue3
  t4 := Tryd.underlying4
  a4 := Tryd.isAgg4
  z4 := Tryd.sizeOf4
  v4 := Tryd.zeroValue4
  t5 := Tryd.underlying5
  a5 := Tryd.isAgg5
  z5 := Tryd.sizeOf5
  v5 := Tryd.zeroValue5
  t9 := Tryd.underlying9
  a9 := Tryd.isAgg9
  z9 := Tryd.sizeOf9
  v9 := Tryd.zeroValue9
  t46 := Tryd.underlying77
  a46 := Tryd.isAgg77
  z46 := Tryd.sizeOf77
  v46 := Tryd.zeroValue77
  t51 := Tryd.underlying93
  a51 := Tryd.isAgg93
  z51 := Tryd.sizeOf93
  v51 := Tryd.zeroValue93
  t146 := Tryd.underlying118
  a146 := Tryd.isAgg118
  z146 := Tryd.sizeOf118
  v146 := Tryd.zeroValue118
  g1 := by kernel_rfl }
open Go.RowKit Go.Lib in
theorem Tryd.strings_Index_one (s : ByteArray) (c : UInt8) (w : World) :
    Calls Tryd.prog 64 #[.string s, .string ⟨#[c]⟩] w fun e w' => e = .returned (.int .i64 (Lib.indexByte s.data.toList c)) ∧ w' = w := Any.strings_Index_one Tryd.lays143 s c w
def Tryd.lays152_ren : Go.Shelf.Ren := ⟨fun | 152 => 80 | 137 => 27 | 119 => 92 | 224 => 90 | 225 => 89 | 217 => 47 | 266 => 61 | n => n, fun | 9 => 9 | 21 => 21 | 3 => 3 | 4 => 4 | 5 => 5 | 0 => 0 | 46 => 77 | n => n, fun | n => n⟩
theorem Tryd.lays152 : Go.Proofs.Lays.n152 Tryd.prog Tryd.lays152_ren := {
  mixed := by kernel_rfl
  f119 := Tryd.func92.trans (congrArg some (by kernel_rfl))
  f137 := Tryd.func27.trans (congrArg some (by kernel_rfl))
  f152 := Tryd.func80.trans (congrArg some (by kernel_rfl))
  f217 := Tryd.func47.trans (congrArg some (by kernel_rfl))
  f224 := Tryd.func90.trans (congrArg some (by kernel_rfl))
  f225 := Tryd.func89.trans (congrArg some (by kernel_rfl))
  f266 := Tryd.func61.trans (congrArg some (by kernel_rfl))
  t0 := Tryd.underlying0
  a0 := Tryd.isAgg0
  z0 := Tryd.sizeOf0
  v0 := Tryd.zeroValue0
  t3 := Tryd.underlying3
  a3 := Tryd.isAgg3
  z3 := Tryd.sizeOf3
  v3 := Tryd.zeroValue3
  t4 := Tryd.underlying4
  a4 := Tryd.isAgg4
  z4 := Tryd.sizeOf4
  v4 := Tryd.zeroValue4
  t5 := Tryd.underlying5
  a5 := Tryd.isAgg5
  z5 := Tryd.sizeOf5
  v5 := Tryd.zeroValue5
  t9 := Tryd.underlying9
  a9 := Tryd.isAgg9
  z9 := Tryd.sizeOf9
  v9 := Tryd.zeroValue9
  t21 := Tryd.underlying21
  a21 := Tryd.isAgg21
  z21 := Tryd.sizeOf21
  v21 := Tryd.zeroValue21
  t46 := Tryd.underlying77
  a46 := Tryd.isAgg77
  z46 := Tryd.sizeOf77
  v46 := Tryd.zeroValue77 }
open Go.RowKit Go.Lib in
theorem Tryd.strings_IndexRune_ascii (s : ByteArray) (r : Int) (w : World) (h0 : 0 ≤ r) (h1 : r < 128) :
    Calls Tryd.prog 80 #[.string s, .int .i32 r] w fun e w' => e = .returned (.int .i64 (Lib.indexByte s.data.toList r.toNat.toUInt8)) ∧ w' = w := Any.strings_IndexRune_ascii Tryd.lays152 s r w h0 h1
def Tryd.lays226_ren : Go.Shelf.Ren := ⟨fun | 226 => 81 | n => n, fun | 3 => 3 | 4 => 4 | n => n, fun | n => n⟩
theorem Tryd.lays226 : Go.Proofs.Lays.n226 Tryd.prog Tryd.lays226_ren := {
  mixed := by kernel_rfl
  f226 := Tryd.func81.trans (congrArg some (by kernel_rfl))
  t3 := Tryd.underlying3
  a3 := Tryd.isAgg3
  z3 := Tryd.sizeOf3
  v3 := Tryd.zeroValue3
  t4 := Tryd.underlying4
  a4 := Tryd.isAgg4
  z4 := Tryd.sizeOf4
  v4 := Tryd.zeroValue4 }
open Go.RowKit Go.Lib in
theorem Tryd.strings_shouldUseASCIISet (n : Int) (w : World) :
    Calls Tryd.prog 81 #[.int .i64 n] w fun e w' => e = .returned (.bool (decide (8 < n))) ∧ w' = w := Any.strings_shouldUseASCIISet Tryd.lays226 n w
def Tryd.lays153_ren : Go.Shelf.Ren := ⟨fun | 153 => 66 | 152 => 80 | 226 => 81 | 227 => 82 | 228 => 83 | 137 => 27 | 119 => 92 | 224 => 90 | 225 => 89 | 217 => 47 | 266 => 61 | n => n, fun | 9 => 9 | 3 => 3 | 4 => 4 | 5 => 5 | 21 => 21 | 117 => 99 | 116 => 98 | 0 => 0 | 46 => 77 | 124 => 114 | n => n, fun | n => n⟩
theorem Tryd.lays153 : Go.Proofs.Lays.n153 Tryd.prog Tryd.lays153_ren := {
  mixed := by kernel_rfl
  f119 := Tryd.func92.trans (congrArg some (by kernel_rfl))
  f137 := Tryd.func27.trans (congrArg some (by kernel_rfl))
  f152 := Tryd.func80.trans (congrArg some (by kernel_rfl))
  f153 := Tryd.func66.trans (congrArg some (by kernel_rfl))
  f217 := Tryd.func47.trans (congrArg some (by kernel_rfl))
  f224 := Tryd.func90.trans (congrArg some (by kernel_rfl))
  f225 := Tryd.func89.trans (congrArg some (by kernel_rfl))
  f226 := Tryd.func81.trans (congrArg some (by kernel_rfl))
  f227 := Tryd.func82.trans (congrArg some (by kernel_rfl))
  f228 := Tryd.func83.trans (congrArg some (by kernel_rfl))
  f266 := Tryd.func61.trans (congrArg some (by kernel_rfl))
  t0 := Tryd.underlying0
  a0 := Tryd.isAgg0
  z0 := Tryd.sizeOf0
  v0 := Tryd.zeroValue0
  t3 := Tryd.underlying3
  a3 := Tryd.isAgg3
  z3 := Tryd.sizeOf3
  v3 := Tryd.zeroValue3
  t4 := Tryd.underlying4
  a4 := Tryd.isAgg4
  z4 := Tryd.sizeOf4
  v4 := Tryd.zeroValue4
  t5 := Tryd.underlying5
  a5 := Tryd.isAgg5
  z5 := Tryd.sizeOf5
  v5 := Tryd.zeroValue5
  t9 := Tryd.underlying9
  a9 := Tryd.isAgg9
  z9 := Tryd.sizeOf9
  v9 := Tryd.zeroValue9
  t21 := Tryd.underlying21
  a21 := Tryd.isAgg21
  z21 := Tryd.sizeOf21
  v21 := Tryd.zeroValue21
  t46 := Tryd.underlying77
  a46 := Tryd.isAgg77
  z46 := Tryd.sizeOf77
  v46 := Tryd.zeroValue77
  t116 := Tryd.underlying98
  a116 := Tryd.isAgg98
  z116 := Tryd.sizeOf98
  t117 := Tryd.underlying99
  a117 := Tryd.isAgg99
  z117 := Tryd.sizeOf99
  v117 := Tryd.zeroValue99
  t124 := Tryd.underlying114
  a124 := Tryd.isAgg114
  z124 := Tryd.sizeOf114
  v124 := Tryd.zeroValue114 }
end Go.Proofs
namespace Go.Proofs.YtbmmdkbinlnogaaDoor.Aw
open Go
set_option linter.unusedSimpArgs false
set_option linter.unusedVariables false
theorem strings_IndexByte_c [Tabs Tryd.prog] (s : ByteArray) (c : UInt8) : Con Tryd.prog n_strings_IndexByte [.sc (.string s), .sc (.int .u8 c.toNat)] (.sc (.int .i64 (Lib.indexByte s.data.toList c))) := by
  refine Con.same (xs := [.string s, .int .u8 c.toNat]) fun w => ?_
  have := Tryd.strings_IndexByte s c.toNat w
  rw [show ((c.toNat : Int).toNat.toUInt8) = c by simp] at this
  exact this
theorem strings_Index_c [Tabs Tryd.prog] (s : ByteArray) (c : UInt8) : Con Tryd.prog n_strings_Index [.sc (.string s), .sc (.string ⟨#[c]⟩)] (.sc (.int .i64 (Lib.indexByte s.data.toList c))) :=
  Con.same (xs := [.string s, .string ⟨#[c]⟩]) fun w => Tryd.strings_Index_one s c w
end Go.Proofs.YtbmmdkbinlnogaaDoor.Aw
namespace Go.Proofs.YtbmmdkbinlnogaaDoor.Aw
open Go
set_option linter.unusedSimpArgs false
set_option linter.unusedVariables false
def cutL (c : UInt8) : List UInt8 → List (List UInt8)
  | [] => [[]]
  | x :: s => if x = c then [] :: cutL c s else (x :: (cutL c s).headD []) :: (cutL c s).tail
theorem cut_at {c : UInt8} : ∀ {s : List UInt8}, (Lib.indexByte s c < 0 → cutL c s = [s]) ∧ (0 ≤ Lib.indexByte s c → cutL c s = s.take (Lib.indexByte s c).toNat :: cutL c (s.drop ((Lib.indexByte s c).toNat + 1)) ∧ (Lib.indexByte s c).toNat < s.length)
  | [] => by simp [Lib.indexByte, cutL]
  | x :: s => by
    have ih := cut_at (c := c) (s := s)
    have hg := Lib.indexByte_ge s c
    rw [Lib.indexByte, cutL]
    by_cases h : x = c
    · rw [if_pos h, if_pos (by simpa using h)]
      simp
    · rw [if_neg h, if_neg (by simpa using h)]
      by_cases h1 : Lib.indexByte s c = -1
      · rw [if_pos (by simpa using h1), ih.1 (by omega)]
        simp
      · rw [if_neg (by simpa using h1), (ih.2 (by omega)).1]
        have h2 := (ih.2 (by omega)).2
        have e : (Lib.indexByte s c + 1).toNat = (Lib.indexByte s c).toNat + 1 := by omega
        rw [e]
        refine ⟨fun h => by omega, fun _ => ⟨by simp, by simp only [List.length_cons]; omega⟩⟩
theorem okF_rows {X : IterD} {N gc : Nat} {l : List (Nat × AV)} (h : List (Nat × Nat × List AV)) (h1 : ∀ p ∈ l, (∃ v, p.2 = .sc v) ∨ ∃ q ∈ h, p.2 = .op q.1 q.2.1 0) (h2 : ∀ q ∈ h, ∀ c ∈ q.2.2, ∃ v, c = .sc v) (h3 : ∀ q ∈ h, ∃ b, X.Gi.ob q.1 q.2.1 = some (some b)) (h4 : ∀ i m ob, X.Gi.ob i m = some ob → ∃ q ∈ h, q.1 = i ∧ q.2.1 = m) (hnd : (h.map (·.1)).Nodup) : okF X (mk N gc l (h.map fun q => (q.1, q.2.1, AO.row false q.2.2))) := by
  refine ⟨fun t => ?_, fun i m nl cs e => ?_, fun i m ob e => ?_⟩
  · rcases look_or l t with ⟨p, hp, rfl, e⟩ | e
    · show look l p.1 = _ ∨ _
      rw [show (mk N gc l (h.map fun q => (q.1, q.2.1, AO.row false q.2.2))).tm p.1 = look l p.1 from rfl, e]
      rcases h1 p hp with ⟨v, e⟩ | ⟨q, hq, e⟩
      · exact .inr (.inl ⟨v, e⟩)
      · exact .inr (.inr ⟨q.1, q.2.1, 0, e, h3 q hq⟩)
    · exact .inl e
  · rcases lookH_or (h.map fun q => (q.1, q.2.1, AO.row false q.2.2)) i with ⟨p, hp, rfl, e1⟩ | e1
    · obtain ⟨q, hq, rfl⟩ := List.mem_map.1 hp
      rw [show (mk N gc l (h.map fun q => (q.1, q.2.1, AO.row false q.2.2))).hp = lookH (h.map fun q => (q.1, q.2.1, AO.row false q.2.2)) from rfl, e1] at e
      simp only [Option.some.injEq, Prod.mk.injEq, AO.row.injEq] at e
      obtain ⟨rfl, rfl, rfl⟩ := e
      exact ⟨h3 q hq, h2 q hq⟩
    · rw [show (mk N gc l (h.map fun q => (q.1, q.2.1, AO.row false q.2.2))).hp = lookH (h.map fun q => (q.1, q.2.1, AO.row false q.2.2)) from rfl, e1] at e
      cases e
  · obtain ⟨q, hq, rfl, rfl⟩ := h4 i m ob e
    exact ⟨_, look_hin hnd q hq⟩
theorem startJ_mk3 (N l gc : Nat) (a b c : AV) (h : List (Nat × Nat × List AV)) : startJ N l [a, b, c] h gc = mk N gc [(0, .sc (.func (.yield l) #[] #[])), (1, a), (2, b), (3, c)] (h.map fun q => (q.1, q.2.1, .row false q.2.2)) := by
  unfold startJ mk
  congr 1
  funext t
  match t with
  | 0 => rfl
  | 1 => rfl
  | 2 => rfl
  | 3 => rfl
  | n + 4 => rfl
set_option maxHeartbeats 1000000 in
set_option maxRecDepth 100000 in
theorem split_it [Tabs Tryd.prog] (i1 g1 i2 g2 i3 g3 : Nat) (gc : Nat) (hgc : g1 < gc ∧ g2 < gc ∧ g3 < gc) (hne : i1 ≠ i2 ∧ i1 ≠ i3 ∧ i2 ≠ i3) (s : List UInt8) (hs : s.length ≤ 1000000) (c : UInt8) : ItCon Tryd.prog n_strings_splitSeq_1 [.op i1 g1 0, .op i2 g2 0, .op i3 g3 0] [(i1, g1, [.sc (.string ⟨#[c]⟩)]), (i2, g2, [str s]), (i3, g3, [int 0])] ((cutL c s).map txt) := by
  refine ItCon.of (gc := gc) Tryd.func62 rfl Tryd.ntmps62 e_strings_splitSeq_1 (by kernel_rfl) (by kernel_rfl) r_strings_splitSeq_1 (by simp) (by simp [AV.gl.glL, AV.gl, hgc]) (by simp [str, int]) (by simp [hgc]) (by simp [hne]) ?_
  intro X hX hxs hob hob2
  obtain ⟨n1, n2, n3⟩ := hne
  obtain ⟨Y, hY⟩ : ∃ Y, Y = AV.sc (.func (.yield X.l) #[] #[]) := ⟨_, rfl⟩
  have okf : ∀ (t : List UInt8) (l : List (Nat × AV)), (∀ p ∈ l, (∃ v, p.2 = .sc v) ∨ ∃ q ∈ [(i1, g1, [AV.sc (.string ⟨#[c]⟩)]), (i2, g2, [str t]), (i3, g3, [int 0])], p.2 = .op q.1 q.2.1 0) → okF X (mk 52 gc l [(i1, g1, .row false [AV.sc (.string ⟨#[c]⟩)]), (i2, g2, .row false [str t]), (i3, g3, .row false [int 0])]) := fun t l hl => by
    refine okF_rows [(i1, g1, [AV.sc (.string ⟨#[c]⟩)]), (i2, g2, [str t]), (i3, g3, [int 0])] hl ?_ ?_ ?_ ?_
    · simp [str, int]
    · intro q hq
      simp only [List.mem_cons, List.not_mem_nil, or_false] at hq
      rcases hq with rfl | rfl | rfl
      · exact hob2 (i1, g1, [AV.sc (.string ⟨#[c]⟩)]) (.head _)
      · exact hob2 (i2, g2, [str s]) (.tail _ (.head _))
      · exact hob2 (i3, g3, [int 0]) (.tail _ (.tail _ (.head _)))
    · intro i m ob h
      obtain ⟨q, hq, e1, e2⟩ := hob i m ob h
      simp only [List.mem_cons, List.not_mem_nil, or_false] at hq
      rcases hq with rfl | rfl | rfl
      · exact ⟨(i1, g1, _), .head _, e1, e2⟩
      · exact ⟨(i2, g2, _), .tail _ (.head _), e1, e2⟩
      · exact ⟨(i3, g3, _), .tail _ (.tail _ (.head _)), e1, e2⟩
    · simp [n1, n2, n3]
  obtain ⟨F, hF⟩ : ∃ F : List UInt8 → ASt, F = fun t => mk 52 gc [(0, Y), (1, .op i1 g1 0), (2, .op i2 g2 0), (3, .op i3 g3 0), (11, .sc (.bool false))] [(i1, g1, .row false [AV.sc (.string ⟨#[c]⟩)]), (i2, g2, .row false [str t]), (i3, g3, .row false [int 0])] := ⟨_, rfl⟩
  have okF0 : ∀ t, okF X (F t) := fun t => by
    rw [hF]
    refine okf t _ ?_
    simp [hY]
  rw [startJ_mk3, ← hY]
  show SJ _ _ _ _ _ (mk 52 gc [(0, Y), (1, .op i1 g1 0), (2, .op i2 g2 0), (3, .op i3 g3 0)] [(i1, g1, .row false [AV.sc (.string ⟨#[c]⟩)]), (i2, g2, .row false [str s]), (i3, g3, .row false [int 0])])
  unfold s_strings_splitSeq_1
  refine SJ.seq (SJ.seq (SJ.of hX mix fun L => ?_))
  repeat (first | refine wA ?_ | refine wB ?_ | refine wC rfl ?_ | refine wD rfl ?_ | refine wE ?_ | refine wF (by omega) ?_ | ((first | refine wG ?_ | refine wH ?_ | refine wI ?_ | refine wJ ?_ | refine wK ?_ | refine wL ?_); simp (disch := omega) only [wP, wZ, undef, UInt8.reduceToNat, Nat.reduceOr, Nat.reduceAnd, Nat.reduceXor, Nat.reduceDiv, if_pos, if_neg, aStore, frz, AV.flat, ↓reduceIte, ne_eq, reduceCtorEq, Int.reduceToNat, Nat.reduceEqDiff, Nat.reduceAdd, Nat.reduceSub, Nat.reduceMul, Int.reduceAdd, Int.reduceMul, Int.reduceSub, Int.reduceLT, Int.reduceLE, Int.reduceEq, Int.reduceNe, Nat.reduceLeDiff, Nat.reduceLT, Int.reduceNeg, Nat.reducePow, Nat.reduceMod, ByteArray.size, n1, n2, n3, Ne.symm n1, Ne.symm n2, Ne.symm n3]))
  refine ⟨F s, ?_, okF0 s, ?_⟩
  · rw [hF]
    refine le_mk rfl (Nat.le_refl _) ?_ ?_
    iterate 2 (case _ => simp (disch := omega) only [wP, wZ, undef, UInt8.reduceToNat, Nat.reduceOr, Nat.reduceAnd, Nat.reduceXor, Nat.reduceDiv, if_pos, if_neg, aStore, frz, AV.flat, ↓reduceIte, ne_eq, reduceCtorEq, Int.reduceToNat, Nat.reduceEqDiff, Nat.reduceAdd, Nat.reduceSub, Nat.reduceMul, Int.reduceAdd, Int.reduceMul, Int.reduceSub, Int.reduceLT, Int.reduceLE, Int.reduceEq, Int.reduceNe, Nat.reduceLeDiff, Nat.reduceLT, Int.reduceNeg, Nat.reducePow, Nat.reduceMod, ByteArray.size, n1, n2, n3, Ne.symm n1, Ne.symm n2, Ne.symm n3])
  have hFe : ∀ t, ev Tryd.prog (F t) (T 11) = .sc (.bool false) := fun t => by rw [hF]; rfl
  refine SJ.cond (t := false) (hFe s) (fun h => by cases h) (fun h => SJ.skip ?_)
  refine SJ.seq (SJ.block ?_)
  refine SJ.loop (fun p : List UInt8 × Nat => F p.1) (fun p => some p.2) (fun p => p.1.length ≤ s.length ∧ p.2 ≤ (cutL c s).length ∧ (cutL c s).drop p.2 = cutL c p.1) (fun p => p.1.length) (s, 0) ⟨Nat.le_refl _, Nat.zero_le _, rfl⟩ ?_
  rintro ⟨t, k⟩ ⟨hn, hk, hd⟩
  simp only at hn hk hd ⊢
  obtain ⟨z, hz⟩ : ∃ z, z = Lib.indexByte t c := ⟨_, rfl⟩
  have hFn : F t = mk 52 gc [(0, Y), (1, .op i1 g1 0), (2, .op i2 g2 0), (3, .op i3 g3 0), (11, .sc (.bool false))] [(i1, g1, .row false [AV.sc (.string ⟨#[c]⟩)]), (i2, g2, .row false [str t]), (i3, g3, .row false [int 0])] := by rw [hF]
  rw [hFn]
  refine SJ.block (SJ.seq (SJ.of hX mix fun L => ?_))
  repeat (first | refine wA ?_ | refine wB ?_ | refine wC rfl ?_ | refine wD rfl ?_ | refine wE ?_ | refine wF (by omega) ?_ | ((first | refine wG ?_ | refine wH ?_ | refine wI ?_ | refine wJ ?_ | refine wK ?_ | refine wL ?_); simp (disch := omega) only [wP, wZ, undef, UInt8.reduceToNat, Nat.reduceOr, Nat.reduceAnd, Nat.reduceXor, Nat.reduceDiv, if_pos, if_neg, aStore, frz, AV.flat, ↓reduceIte, ne_eq, reduceCtorEq, Int.reduceToNat, Nat.reduceEqDiff, Nat.reduceAdd, Nat.reduceSub, Nat.reduceMul, Int.reduceAdd, Int.reduceMul, Int.reduceSub, Int.reduceLT, Int.reduceLE, Int.reduceEq, Int.reduceNe, Nat.reduceLeDiff, Nat.reduceLT, Int.reduceNeg, Nat.reducePow, Nat.reduceMod, ByteArray.size, n1, n2, n3, Ne.symm n1, Ne.symm n2, Ne.symm n3]))
  refine goC_p _ (.inl ⟨rfl, strings_Index_c ⟨t.toArray⟩ c⟩) ?_
  rw [show (⟨t.toArray⟩ : ByteArray).data.toList = t from rfl, ← hz]
  repeat (first | refine wA ?_ | refine wB ?_ | refine wC rfl ?_ | refine wD rfl ?_ | refine wE ?_ | refine wF (by omega) ?_ | ((first | refine wG ?_ | refine wH ?_ | refine wI ?_ | refine wJ ?_ | refine wK ?_ | refine wL ?_); simp (disch := omega) only [wP, wZ, undef, UInt8.reduceToNat, Nat.reduceOr, Nat.reduceAnd, Nat.reduceXor, Nat.reduceDiv, if_pos, if_neg, aStore, frz, AV.flat, ↓reduceIte, ne_eq, reduceCtorEq, Int.reduceToNat, Nat.reduceEqDiff, Nat.reduceAdd, Nat.reduceSub, Nat.reduceMul, Int.reduceAdd, Int.reduceMul, Int.reduceSub, Int.reduceLT, Int.reduceLE, Int.reduceEq, Int.reduceNe, Nat.reduceLeDiff, Nat.reduceLT, Int.reduceNeg, Nat.reducePow, Nat.reduceMod, ByteArray.size, n1, n2, n3, Ne.symm n1, Ne.symm n2, Ne.symm n3]))
  refine ⟨mk 52 gc [(0, Y), (1, .op i1 g1 0), (2, .op i2 g2 0), (3, .op i3 g3 0), (7, int z), (11, .sc (.bool false))] [(i1, g1, .row false [AV.sc (.string ⟨#[c]⟩)]), (i2, g2, .row false [str t]), (i3, g3, .row false [int 0])], le_mk rfl (Nat.le_refl _) ?_ ?_, ?_, ?_⟩
  iterate 2 (case _ => simp (disch := omega) only [wP, wZ, undef, UInt8.reduceToNat, Nat.reduceOr, Nat.reduceAnd, Nat.reduceXor, Nat.reduceDiv, if_pos, if_neg, aStore, frz, AV.flat, ↓reduceIte, ne_eq, reduceCtorEq, Int.reduceToNat, Nat.reduceEqDiff, Nat.reduceAdd, Nat.reduceSub, Nat.reduceMul, Int.reduceAdd, Int.reduceMul, Int.reduceSub, Int.reduceLT, Int.reduceLE, Int.reduceEq, Int.reduceNe, Nat.reduceLeDiff, Nat.reduceLT, Int.reduceNeg, Nat.reducePow, Nat.reduceMod, ByteArray.size, n1, n2, n3, Ne.symm n1, Ne.symm n2, Ne.symm n3])
  · refine okf t _ ?_
    simp [hY, str, int]
  refine SJ.seq (SJ.seq (SJ.of hX mix fun L => ?_))
  repeat (first | refine wA ?_ | refine wB ?_ | refine wC rfl ?_ | refine wD rfl ?_ | refine wE ?_ | refine wF (by omega) ?_ | ((first | refine wG ?_ | refine wH ?_ | refine wI ?_ | refine wJ ?_ | refine wK ?_ | refine wL ?_); simp (disch := omega) only [wP, wZ, undef, UInt8.reduceToNat, Nat.reduceOr, Nat.reduceAnd, Nat.reduceXor, Nat.reduceDiv, if_pos, if_neg, aStore, frz, AV.flat, ↓reduceIte, ne_eq, reduceCtorEq, Int.reduceToNat, Nat.reduceEqDiff, Nat.reduceAdd, Nat.reduceSub, Nat.reduceMul, Int.reduceAdd, Int.reduceMul, Int.reduceSub, Int.reduceLT, Int.reduceLE, Int.reduceEq, Int.reduceNe, Nat.reduceLeDiff, Nat.reduceLT, Int.reduceNeg, Nat.reducePow, Nat.reduceMod, ByteArray.size, n1, n2, n3, Ne.symm n1, Ne.symm n2, Ne.symm n3]))
  refine ⟨mk 52 gc [(0, Y), (1, .op i1 g1 0), (2, .op i2 g2 0), (3, .op i3 g3 0), (7, int z), (11, .sc (.bool false)), (33, .sc (.bool (decide (z < 0))))] [(i1, g1, .row false [AV.sc (.string ⟨#[c]⟩)]), (i2, g2, .row false [str t]), (i3, g3, .row false [int 0])], le_mk rfl (Nat.le_refl _) ?_ ?_, ?_, ?_⟩
  iterate 2 (case _ => simp (disch := omega) only [wP, wZ, undef, UInt8.reduceToNat, Nat.reduceOr, Nat.reduceAnd, Nat.reduceXor, Nat.reduceDiv, if_pos, if_neg, aStore, frz, AV.flat, ↓reduceIte, ne_eq, reduceCtorEq, Int.reduceToNat, Nat.reduceEqDiff, Nat.reduceAdd, Nat.reduceSub, Nat.reduceMul, Int.reduceAdd, Int.reduceMul, Int.reduceSub, Int.reduceLT, Int.reduceLE, Int.reduceEq, Int.reduceNe, Nat.reduceLeDiff, Nat.reduceLT, Int.reduceNeg, Nat.reducePow, Nat.reduceMod, ByteArray.size, n1, n2, n3, Ne.symm n1, Ne.symm n2, Ne.symm n3])
  · refine okf t _ ?_
    simp [hY, str, int]
  refine SJ.cond (t := decide (z < 0)) (by rfl) (fun h => ?_) (fun h => ?_)
  case _ =>
    have h0 : z < 0 := of_decide_eq_true h
    have hd2 := hd
    rw [(cut_at (s := t)).1 (by rw [← hz]; exact h0)] at hd2
    obtain ⟨g1', g2'⟩ := drop_get hd2
    have hvk : X.xs[k]? = some (txt t) := by rw [hxs, List.getElem?_map, g1']; rfl
    have hl1 := List.drop_eq_nil_iff.1 (drop_next hd2)
    refine SJ.exit ?_
    refine SJ.yield hX (A := [_, _]) (B := []) (F := mk 52 gc [(0, Y), (1, .op i1 g1 0), (2, .op i2 g2 0), (3, .op i3 g3 0)] [(i1, g1, .row false [AV.sc (.string ⟨#[c]⟩)]), (i2, g2, .row false [str t]), (i3, g3, .row false [int 0])]) (v := txt t) ?_ ?_ (by show 51 < 52; omega) hvk ?_
    · repeat (first | refine wA ?_ | refine wB ?_ | refine wC rfl ?_ | refine wD rfl ?_ | refine wE ?_ | refine wF (by omega) ?_ | ((first | refine wG ?_ | refine wH ?_ | refine wI ?_ | refine wJ ?_ | refine wK ?_ | refine wL ?_); simp (disch := omega) only [wP, wZ, undef, UInt8.reduceToNat, Nat.reduceOr, Nat.reduceAnd, Nat.reduceXor, Nat.reduceDiv, if_pos, if_neg, aStore, frz, AV.flat, ↓reduceIte, ne_eq, reduceCtorEq, Int.reduceToNat, Nat.reduceEqDiff, Nat.reduceAdd, Nat.reduceSub, Nat.reduceMul, Int.reduceAdd, Int.reduceMul, Int.reduceSub, Int.reduceLT, Int.reduceLE, Int.reduceEq, Int.reduceNe, Nat.reduceLeDiff, Nat.reduceLT, Int.reduceNeg, Nat.reducePow, Nat.reduceMod, ByteArray.size, n1, n2, n3, Ne.symm n1, Ne.symm n2, Ne.symm n3]))
      refine ⟨rfl, le_mk rfl (Nat.le_refl _) ?_ ?_⟩
      iterate 2 (case _ => simp (disch := omega) only [wP, wZ, undef, UInt8.reduceToNat, Nat.reduceOr, Nat.reduceAnd, Nat.reduceXor, Nat.reduceDiv, if_pos, if_neg, aStore, frz, AV.flat, ↓reduceIte, ne_eq, reduceCtorEq, Int.reduceToNat, Nat.reduceEqDiff, Nat.reduceAdd, Nat.reduceSub, Nat.reduceMul, Int.reduceAdd, Int.reduceMul, Int.reduceSub, Int.reduceLT, Int.reduceLE, Int.reduceEq, Int.reduceNe, Nat.reduceLeDiff, Nat.reduceLT, Int.reduceNeg, Nat.reducePow, Nat.reduceMod, ByteArray.size, n1, n2, n3, Ne.symm n1, Ne.symm n2, Ne.symm n3])
    · refine okf t _ ?_
      simp [hY]
    · intro b
      repeat (first | refine wA ?_ | refine wB ?_ | refine wC rfl ?_ | refine wD rfl ?_ | refine wE ?_ | refine wF (by omega) ?_ | ((first | refine wG ?_ | refine wH ?_ | refine wI ?_ | refine wJ ?_ | refine wK ?_ | refine wL ?_); simp (disch := omega) only [wP, wZ, undef, UInt8.reduceToNat, Nat.reduceOr, Nat.reduceAnd, Nat.reduceXor, Nat.reduceDiv, if_pos, if_neg, aStore, frz, AV.flat, ↓reduceIte, ne_eq, reduceCtorEq, Int.reduceToNat, Nat.reduceEqDiff, Nat.reduceAdd, Nat.reduceSub, Nat.reduceMul, Int.reduceAdd, Int.reduceMul, Int.reduceSub, Int.reduceLT, Int.reduceLE, Int.reduceEq, Int.reduceNe, Nat.reduceLeDiff, Nat.reduceLT, Int.reduceNeg, Nat.reducePow, Nat.reduceMod, ByteArray.size, n1, n2, n3, Ne.symm n1, Ne.symm n2, Ne.symm n3]))
      refine ⟨mk 52 gc [(0, Y), (1, .op i1 g1 0), (2, .op i2 g2 0), (3, .op i3 g3 0)] [(i1, g1, .row false [AV.sc (.string ⟨#[c]⟩)]), (i2, g2, .row false [str t]), (i3, g3, .row false [int 0])], le_mk rfl (Nat.le_refl _) ?_ ?_, ?_, ?_⟩
      iterate 2 (case _ => simp (disch := omega) only [wP, wZ, undef, UInt8.reduceToNat, Nat.reduceOr, Nat.reduceAnd, Nat.reduceXor, Nat.reduceDiv, if_pos, if_neg, aStore, frz, AV.flat, ↓reduceIte, ne_eq, reduceCtorEq, Int.reduceToNat, Nat.reduceEqDiff, Nat.reduceAdd, Nat.reduceSub, Nat.reduceMul, Int.reduceAdd, Int.reduceMul, Int.reduceSub, Int.reduceLT, Int.reduceLE, Int.reduceEq, Int.reduceNe, Nat.reduceLeDiff, Nat.reduceLT, Int.reduceNeg, Nat.reducePow, Nat.reduceMod, ByteArray.size, n1, n2, n3, Ne.symm n1, Ne.symm n2, Ne.symm n3])
      · refine okf t _ ?_
        simp [hY, str, int]
      cases b with
      | false => exact .inl rfl
      | true =>
        refine .inr ?_
        show some (k + 1) = _
        congr 1
        omega
  case _ =>
    have h0 : 0 ≤ z := by simpa using h
    refine SJ.skip ?_
    obtain ⟨m, rfl⟩ : ∃ m : Nat, z = m := ⟨z.toNat, by omega⟩
    have hd2 := hd
    have hc2 := (cut_at (s := t) (c := c)).2 (by rw [← hz]; exact h0)
    rw [← hz, Int.toNat_natCast] at hc2
    obtain ⟨hc2, hm⟩ := hc2
    rw [hc2] at hd2
    obtain ⟨g1', g2'⟩ := drop_get hd2
    have hvk : X.xs[k]? = some (txt (t.take m)) := by rw [hxs, List.getElem?_map, g1']; rfl
    refine SJ.seq (SJ.of hX mix fun L => ?_)
    repeat (first | refine wA ?_ | refine wB ?_ | refine wC rfl ?_ | refine wD rfl ?_ | refine wE ?_ | refine wF (by omega) ?_ | ((first | refine wG ?_ | refine wH ?_ | refine wI ?_ | refine wJ ?_ | refine wK ?_ | refine wL ?_); simp (disch := omega) only [wP, wZ, undef, UInt8.reduceToNat, Nat.reduceOr, Nat.reduceAnd, Nat.reduceXor, Nat.reduceDiv, if_pos, if_neg, aStore, frz, AV.flat, ↓reduceIte, ne_eq, reduceCtorEq, Int.reduceToNat, Nat.reduceEqDiff, Nat.reduceAdd, Nat.reduceSub, Nat.reduceMul, Int.reduceAdd, Int.reduceMul, Int.reduceSub, Int.reduceLT, Int.reduceLE, Int.reduceEq, Int.reduceNe, Nat.reduceLeDiff, Nat.reduceLT, Int.reduceNeg, Nat.reducePow, Nat.reduceMod, ByteArray.size, n1, n2, n3, Ne.symm n1, Ne.symm n2, Ne.symm n3]))
    refine ⟨mk 52 gc [(0, Y), (1, .op i1 g1 0), (2, .op i2 g2 0), (3, .op i3 g3 0), (7, int (m : Int)), (8, str (t.take m)), (11, .sc (.bool false))] [(i1, g1, .row false [AV.sc (.string ⟨#[c]⟩)]), (i2, g2, .row false [str t]), (i3, g3, .row false [int 0])], le_mk rfl (Nat.le_refl _) ?_ ?_, ?_, ?_⟩
    iterate 2 (case _ => simp (disch := omega) only [wP, wZ, undef, UInt8.reduceToNat, Nat.reduceOr, Nat.reduceAnd, Nat.reduceXor, Nat.reduceDiv, if_pos, if_neg, aStore, frz, AV.flat, ↓reduceIte, ne_eq, reduceCtorEq, Int.reduceToNat, Nat.reduceEqDiff, Nat.reduceAdd, Nat.reduceSub, Nat.reduceMul, Int.reduceAdd, Int.reduceMul, Int.reduceSub, Int.reduceLT, Int.reduceLE, Int.reduceEq, Int.reduceNe, Nat.reduceLeDiff, Nat.reduceLT, Int.reduceNeg, Nat.reducePow, Nat.reduceMod, ByteArray.size, n1, n2, n3, Ne.symm n1, Ne.symm n2, Ne.symm n3])
    · refine okf t _ ?_
      simp [hY, str, int]
    refine SJ.seq (SJ.seq ?_)
    refine SJ.yield hX (A := [_, _]) (B := [_]) (F := mk 52 gc [(0, Y), (1, .op i1 g1 0), (2, .op i2 g2 0), (3, .op i3 g3 0), (7, int (m : Int)), (11, .sc (.bool false))] [(i1, g1, .row false [AV.sc (.string ⟨#[c]⟩)]), (i2, g2, .row false [str t]), (i3, g3, .row false [int 0])]) (v := txt (t.take m)) ?_ ?_ (by show 41 < 52; omega) hvk ?_
    · repeat (first | refine wA ?_ | refine wB ?_ | refine wC rfl ?_ | refine wD rfl ?_ | refine wE ?_ | refine wF (by omega) ?_ | ((first | refine wG ?_ | refine wH ?_ | refine wI ?_ | refine wJ ?_ | refine wK ?_ | refine wL ?_); simp (disch := omega) only [wP, wZ, undef, UInt8.reduceToNat, Nat.reduceOr, Nat.reduceAnd, Nat.reduceXor, Nat.reduceDiv, if_pos, if_neg, aStore, frz, AV.flat, ↓reduceIte, ne_eq, reduceCtorEq, Int.reduceToNat, Nat.reduceEqDiff, Nat.reduceAdd, Nat.reduceSub, Nat.reduceMul, Int.reduceAdd, Int.reduceMul, Int.reduceSub, Int.reduceLT, Int.reduceLE, Int.reduceEq, Int.reduceNe, Nat.reduceLeDiff, Nat.reduceLT, Int.reduceNeg, Nat.reducePow, Nat.reduceMod, ByteArray.size, n1, n2, n3, Ne.symm n1, Ne.symm n2, Ne.symm n3]))
      refine ⟨rfl, le_mk rfl (Nat.le_refl _) ?_ ?_⟩
      iterate 2 (case _ => simp (disch := omega) only [wP, wZ, undef, UInt8.reduceToNat, Nat.reduceOr, Nat.reduceAnd, Nat.reduceXor, Nat.reduceDiv, if_pos, if_neg, aStore, frz, AV.flat, ↓reduceIte, ne_eq, reduceCtorEq, Int.reduceToNat, Nat.reduceEqDiff, Nat.reduceAdd, Nat.reduceSub, Nat.reduceMul, Int.reduceAdd, Int.reduceMul, Int.reduceSub, Int.reduceLT, Int.reduceLE, Int.reduceEq, Int.reduceNe, Nat.reduceLeDiff, Nat.reduceLT, Int.reduceNeg, Nat.reducePow, Nat.reduceMod, ByteArray.size, n1, n2, n3, Ne.symm n1, Ne.symm n2, Ne.symm n3])
    · refine okf t _ ?_
      simp [hY, int]
    · intro b
      cases b with
      | false =>
        repeat (first | refine wA ?_ | refine wB ?_ | refine wC rfl ?_ | refine wD rfl ?_ | refine wE ?_ | refine wF (by omega) ?_ | ((first | refine wG ?_ | refine wH ?_ | refine wI ?_ | refine wJ ?_ | refine wK ?_ | refine wL ?_); simp (disch := omega) only [wP, wZ, undef, UInt8.reduceToNat, Nat.reduceOr, Nat.reduceAnd, Nat.reduceXor, Nat.reduceDiv, if_pos, if_neg, aStore, frz, AV.flat, ↓reduceIte, ne_eq, reduceCtorEq, Int.reduceToNat, Nat.reduceEqDiff, Nat.reduceAdd, Nat.reduceSub, Nat.reduceMul, Int.reduceAdd, Int.reduceMul, Int.reduceSub, Int.reduceLT, Int.reduceLE, Int.reduceEq, Int.reduceNe, Nat.reduceLeDiff, Nat.reduceLT, Int.reduceNeg, Nat.reducePow, Nat.reduceMod, ByteArray.size, n1, n2, n3, Ne.symm n1, Ne.symm n2, Ne.symm n3]))
        refine ⟨mk 52 gc [(0, Y), (1, .op i1 g1 0), (2, .op i2 g2 0), (3, .op i3 g3 0), (42, .sc (.bool true))] [(i1, g1, .row false [AV.sc (.string ⟨#[c]⟩)]), (i2, g2, .row false [str t]), (i3, g3, .row false [int 0])], le_mk rfl (Nat.le_refl _) ?_ ?_, ?_, ?_⟩
        iterate 2 (case _ => simp (disch := omega) only [wP, wZ, undef, UInt8.reduceToNat, Nat.reduceOr, Nat.reduceAnd, Nat.reduceXor, Nat.reduceDiv, if_pos, if_neg, aStore, frz, AV.flat, ↓reduceIte, ne_eq, reduceCtorEq, Int.reduceToNat, Nat.reduceEqDiff, Nat.reduceAdd, Nat.reduceSub, Nat.reduceMul, Int.reduceAdd, Int.reduceMul, Int.reduceSub, Int.reduceLT, Int.reduceLE, Int.reduceEq, Int.reduceNe, Nat.reduceLeDiff, Nat.reduceLT, Int.reduceNeg, Nat.reducePow, Nat.reduceMod, ByteArray.size, n1, n2, n3, Ne.symm n1, Ne.symm n2, Ne.symm n3])
        · refine okf t _ ?_
          simp [hY, str, int]
        refine SJ.cond (t := true) (by rfl) (fun h => ?_) (fun h => by cases h)
        refine SJ.ret ?_
        exact .inl rfl
      | true =>
        repeat (first | refine wA ?_ | refine wB ?_ | refine wC rfl ?_ | refine wD rfl ?_ | refine wE ?_ | refine wF (by omega) ?_ | ((first | refine wG ?_ | refine wH ?_ | refine wI ?_ | refine wJ ?_ | refine wK ?_ | refine wL ?_); simp (disch := omega) only [wP, wZ, undef, UInt8.reduceToNat, Nat.reduceOr, Nat.reduceAnd, Nat.reduceXor, Nat.reduceDiv, if_pos, if_neg, aStore, frz, AV.flat, ↓reduceIte, ne_eq, reduceCtorEq, Int.reduceToNat, Nat.reduceEqDiff, Nat.reduceAdd, Nat.reduceSub, Nat.reduceMul, Int.reduceAdd, Int.reduceMul, Int.reduceSub, Int.reduceLT, Int.reduceLE, Int.reduceEq, Int.reduceNe, Nat.reduceLeDiff, Nat.reduceLT, Int.reduceNeg, Nat.reducePow, Nat.reduceMod, ByteArray.size, n1, n2, n3, Ne.symm n1, Ne.symm n2, Ne.symm n3]))
        refine ⟨mk 52 gc [(0, Y), (1, .op i1 g1 0), (2, .op i2 g2 0), (3, .op i3 g3 0), (7, int (m : Int)), (11, .sc (.bool false)), (42, .sc (.bool false))] [(i1, g1, .row false [AV.sc (.string ⟨#[c]⟩)]), (i2, g2, .row false [str t]), (i3, g3, .row false [int 0])], le_mk rfl (Nat.le_refl _) ?_ ?_, ?_, ?_⟩
        iterate 2 (case _ => simp (disch := omega) only [wP, wZ, undef, UInt8.reduceToNat, Nat.reduceOr, Nat.reduceAnd, Nat.reduceXor, Nat.reduceDiv, if_pos, if_neg, aStore, frz, AV.flat, ↓reduceIte, ne_eq, reduceCtorEq, Int.reduceToNat, Nat.reduceEqDiff, Nat.reduceAdd, Nat.reduceSub, Nat.reduceMul, Int.reduceAdd, Int.reduceMul, Int.reduceSub, Int.reduceLT, Int.reduceLE, Int.reduceEq, Int.reduceNe, Nat.reduceLeDiff, Nat.reduceLT, Int.reduceNeg, Nat.reducePow, Nat.reduceMod, ByteArray.size, n1, n2, n3, Ne.symm n1, Ne.symm n2, Ne.symm n3])
        · refine okf t _ ?_
          simp [hY, str, int]
        refine SJ.cond (t := false) (by rfl) (fun h => by cases h) (fun h => ?_)
        refine SJ.skip ?_
        refine SJ.of hX mix fun L => ?_
        repeat (first | refine wA ?_ | refine wB ?_ | refine wC rfl ?_ | refine wD rfl ?_ | refine wE ?_ | refine wF (by omega) ?_ | ((first | refine wG ?_ | refine wH ?_ | refine wI ?_ | refine wJ ?_ | refine wK ?_ | refine wL ?_); simp (disch := omega) only [wP, wZ, undef, UInt8.reduceToNat, Nat.reduceOr, Nat.reduceAnd, Nat.reduceXor, Nat.reduceDiv, if_pos, if_neg, aStore, frz, AV.flat, ↓reduceIte, ne_eq, reduceCtorEq, Int.reduceToNat, Nat.reduceEqDiff, Nat.reduceAdd, Nat.reduceSub, Nat.reduceMul, Int.reduceAdd, Int.reduceMul, Int.reduceSub, Int.reduceLT, Int.reduceLE, Int.reduceEq, Int.reduceNe, Nat.reduceLeDiff, Nat.reduceLT, Int.reduceNeg, Nat.reducePow, Nat.reduceMod, ByteArray.size, n1, n2, n3, Ne.symm n1, Ne.symm n2, Ne.symm n3]))
        refine ⟨F (t.drop (m + 1)), ?_, okF0 _, (t.drop (m + 1), k + 1), ⟨?_, g2', drop_next hd2⟩, ?_, rfl, rfl⟩
        · rw [hF]
          refine le_mk rfl (Nat.le_refl _) ?_ ?_
          iterate 2 (case _ => simp (disch := omega) only [wP, wZ, undef, UInt8.reduceToNat, Nat.reduceOr, Nat.reduceAnd, Nat.reduceXor, Nat.reduceDiv, if_pos, if_neg, aStore, frz, AV.flat, ↓reduceIte, ne_eq, reduceCtorEq, Int.reduceToNat, Nat.reduceEqDiff, Nat.reduceAdd, Nat.reduceSub, Nat.reduceMul, Int.reduceAdd, Int.reduceMul, Int.reduceSub, Int.reduceLT, Int.reduceLE, Int.reduceEq, Int.reduceNe, Nat.reduceLeDiff, Nat.reduceLT, Int.reduceNeg, Nat.reducePow, Nat.reduceMod, ByteArray.size, n1, n2, n3, Ne.symm n1, Ne.symm n2, Ne.symm n3])
        · simp only [List.length_drop]; omega
        · simp only [List.length_drop]; omega
end Go.Proofs.YtbmmdkbinlnogaaDoor.Aw
namespace Go.Proofs.YtbmmdkbinlnogaaDoor.Aw
open Go
set_option linter.unusedSimpArgs false
set_option linter.unusedVariables false
set_option maxRecDepth 100000 in
theorem above_c [Tabs Tryd.prog] (s : List UInt8) : HCon Tryd.prog n_entry_above [str s] [] (.clo n_entry_above_1 [.op 1 1 0]) [(1, 1, .row false [str s])] 2 := by
  refine HCon.of' mix Tryd.func52 rfl Tryd.ntmps52 e_entry_above r_entry_above (by simp) (by simp [AV.gl.glL, AV.gl, str]) (by simp) ?_
  unfold s_entry_above
  repeat (first | refine wA ?_ | refine wB ?_ | refine wC rfl ?_ | refine wD rfl ?_ | refine wE ?_ | refine wF (by omega) ?_ | ((first | refine wG ?_ | refine wH ?_ | refine wI ?_ | refine wJ ?_ | refine wK ?_ | refine wL ?_); simp (disch := omega) only [wP, wZ, undef, UInt8.reduceToNat, Nat.reduceOr, Nat.reduceAnd, Nat.reduceXor, Nat.reduceDiv, if_pos, if_neg, aStore, frz, AV.flat, ↓reduceIte, ne_eq, reduceCtorEq, Int.reduceToNat, Nat.reduceEqDiff, Nat.reduceAdd, Nat.reduceSub, Nat.reduceMul, Int.reduceAdd, Int.reduceMul, Int.reduceSub, Int.reduceLT, Int.reduceLE, Int.reduceEq, Int.reduceNe, Nat.reduceLeDiff, Nat.reduceLT, Int.reduceNeg, Nat.reducePow, Nat.reduceMod, ByteArray.size]))
set_option maxRecDepth 100000 in
theorem splitSeq_c [Tabs Tryd.prog] (s : List UInt8) (c : UInt8) : HCon Tryd.prog n_strings_splitSeq [str s, .sc (.string ⟨#[c]⟩), int 0] [] (.clo n_strings_splitSeq_1 [.op 4 2 0, .op 3 1 0, .op 5 3 0]) [(4, 2, .row false [.sc (.string ⟨#[c]⟩)]), (3, 1, .row false [str s]), (5, 3, .row false [int 0])] 4 := by
  refine HCon.of' mix Tryd.func48 rfl Tryd.ntmps48 e_strings_splitSeq r_strings_splitSeq (by simp) (by simp [AV.gl.glL, AV.gl, str, int]) (by simp) ?_
  unfold s_strings_splitSeq
  repeat (first | refine wA ?_ | refine wB ?_ | refine wC rfl ?_ | refine wD rfl ?_ | refine wE ?_ | refine wF (by omega) ?_ | ((first | refine wG ?_ | refine wH ?_ | refine wI ?_ | refine wJ ?_ | refine wK ?_ | refine wL ?_); simp (disch := omega) only [wP, wZ, undef, UInt8.reduceToNat, Nat.reduceOr, Nat.reduceAnd, Nat.reduceXor, Nat.reduceDiv, if_pos, if_neg, aStore, frz, AV.flat, ↓reduceIte, ne_eq, reduceCtorEq, Int.reduceToNat, Nat.reduceEqDiff, Nat.reduceAdd, Nat.reduceSub, Nat.reduceMul, Int.reduceAdd, Int.reduceMul, Int.reduceSub, Int.reduceLT, Int.reduceLE, Int.reduceEq, Int.reduceNe, Nat.reduceLeDiff, Nat.reduceLT, Int.reduceNeg, Nat.reducePow, Nat.reduceMod, ByteArray.size]))
set_option maxRecDepth 100000 in
theorem SplitSeq_c [Tabs Tryd.prog] (s : List UInt8) (c : UInt8) : HCon Tryd.prog n_strings_SplitSeq [str s, .sc (.string ⟨#[c]⟩)] [] (.clo n_strings_splitSeq_1 [.op 104 3 0, .op 103 2 0, .op 105 4 0]) [(104, 3, .row false [.sc (.string ⟨#[c]⟩)]), (103, 2, .row false [str s]), (105, 4, .row false [int 0])] 5 := by
  refine HCon.of' mix Tryd.func28 rfl Tryd.ntmps28 e_strings_SplitSeq r_strings_SplitSeq (by simp) (by simp [AV.gl.glL, AV.gl, str, int]) (by simp) ?_
  unfold s_strings_SplitSeq
  repeat (first | refine wA ?_ | refine wB ?_ | refine wC rfl ?_ | refine wD rfl ?_ | refine wE ?_ | refine wF (by omega) ?_ | ((first | refine wG ?_ | refine wH ?_ | refine wI ?_ | refine wJ ?_ | refine wK ?_ | refine wL ?_); simp (disch := omega) only [wP, wZ, undef, UInt8.reduceToNat, Nat.reduceOr, Nat.reduceAnd, Nat.reduceXor, Nat.reduceDiv, if_pos, if_neg, aStore, frz, AV.flat, ↓reduceIte, ne_eq, reduceCtorEq, Int.reduceToNat, Nat.reduceEqDiff, Nat.reduceAdd, Nat.reduceSub, Nat.reduceMul, Int.reduceAdd, Int.reduceMul, Int.reduceSub, Int.reduceLT, Int.reduceLE, Int.reduceEq, Int.reduceNe, Nat.reduceLeDiff, Nat.reduceLT, Int.reduceNeg, Nat.reducePow, Nat.reduceMod, ByteArray.size]))
  refine goC_h [] 100 (splitSeq_c s c) (by simp) (by simp) (by simp [handOk]) (by simp [ren.renL, ren, str, int]) ?_
  repeat (first | refine wA ?_ | refine wB ?_ | refine wC rfl ?_ | refine wD rfl ?_ | refine wE ?_ | refine wF (by omega) ?_ | ((first | refine wG ?_ | refine wH ?_ | refine wI ?_ | refine wJ ?_ | refine wK ?_ | refine wL ?_); simp (disch := omega) only [wP, wZ, undef, UInt8.reduceToNat, Nat.reduceOr, Nat.reduceAnd, Nat.reduceXor, Nat.reduceDiv, if_pos, if_neg, aStore, frz, AV.flat, ↓reduceIte, ne_eq, reduceCtorEq, Int.reduceToNat, Nat.reduceEqDiff, Nat.reduceAdd, Nat.reduceSub, Nat.reduceMul, Int.reduceAdd, Int.reduceMul, Int.reduceSub, Int.reduceLT, Int.reduceLE, Int.reduceEq, Int.reduceNe, Nat.reduceLeDiff, Nat.reduceLT, Int.reduceNeg, Nat.reducePow, Nat.reduceMod, ByteArray.size]))
  done
end Go.Proofs.YtbmmdkbinlnogaaDoor.Aw
namespace Go.Proofs.YtbmmdkbinlnogaaDoor.Aw
open Go
set_option linter.unusedSimpArgs false
set_option linter.unusedVariables false
theorem all_takeS {α : Type} {f : α → Bool} {l : List α} {k : Nat} {x : α} (h : (l.take k).all f = true) (hx : l[k]? = some x) (hf : f x = true) : (l.take (k + 1)).all f = true := by
  rw [List.take_add_one, hx, List.all_append, h]
  simp [hf]
def partOk (p : List UInt8) : Bool := !(p == [] || p == [46] || p == [46, 46])
def pathOk (s : List UInt8) : Bool := decide (s.length ≤ 200) && decide (Lib.indexByte s 0 < 0) && (cutL 47 s).all partOk
set_option maxRecDepth 100000 in
theorem Path_c [Tabs Tryd.prog] (s : List UInt8) (hs : s.length ≤ 1000000) : Con Tryd.prog n_entry_Path [str s] (.sc (.bool (pathOk s))) := by
  refine Con.of' mix Tryd.func12 rfl Tryd.ntmps12 e_entry_Path r_entry_Path (by simp) rfl rfl ?_
  unfold s_entry_Path
  obtain ⟨Z, hZ⟩ : ∃ Z, Z = pathOk s := ⟨_, rfl⟩
  rw [← hZ]
  by_cases h1 : s.length ≤ 200
  case neg =>
    have d : decide ((200 : Int) < (s.length : Int)) = true := decide_eq_true (by omega)
    have : Z = false := by rw [hZ, pathOk, decide_eq_false h1]; rfl
    subst this
    repeat (first | refine wA ?_ | refine wB ?_ | refine wC rfl ?_ | refine wD rfl ?_ | refine wE ?_ | refine wF (by omega) ?_ | ((first | refine wG ?_ | refine wH ?_ | refine wI ?_ | refine wJ ?_ | refine wK ?_ | refine wL ?_); simp (disch := omega) only [wP, wZ, undef, UInt8.reduceToNat, Nat.reduceOr, Nat.reduceAnd, Nat.reduceXor, Nat.reduceDiv, if_pos, if_neg, aStore, frz, AV.flat, ↓reduceIte, ne_eq, reduceCtorEq, Int.reduceToNat, Nat.reduceEqDiff, Nat.reduceAdd, Nat.reduceSub, Nat.reduceMul, Int.reduceAdd, Int.reduceMul, Int.reduceSub, Int.reduceLT, Int.reduceLE, Int.reduceEq, Int.reduceNe, Nat.reduceLeDiff, Nat.reduceLT, Int.reduceNeg, Nat.reducePow, Nat.reduceMod, ByteArray.size, d]))
  have d : decide ((200 : Int) < (s.length : Int)) = false := decide_eq_false (by omega)
  repeat (first | refine wA ?_ | refine wB ?_ | refine wC rfl ?_ | refine wD rfl ?_ | refine wE ?_ | refine wF (by omega) ?_ | ((first | refine wG ?_ | refine wH ?_ | refine wI ?_ | refine wJ ?_ | refine wK ?_ | refine wL ?_); simp (disch := omega) only [wP, wZ, undef, UInt8.reduceToNat, Nat.reduceOr, Nat.reduceAnd, Nat.reduceXor, Nat.reduceDiv, if_pos, if_neg, aStore, frz, AV.flat, ↓reduceIte, ne_eq, reduceCtorEq, Int.reduceToNat, Nat.reduceEqDiff, Nat.reduceAdd, Nat.reduceSub, Nat.reduceMul, Int.reduceAdd, Int.reduceMul, Int.reduceSub, Int.reduceLT, Int.reduceLE, Int.reduceEq, Int.reduceNe, Nat.reduceLeDiff, Nat.reduceLT, Int.reduceNeg, Nat.reducePow, Nat.reduceMod, ByteArray.size, d]))
  refine goC_p _ (.inl ⟨rfl, strings_IndexByte_c ⟨s.toArray⟩ 0⟩) ?_
  rw [show (⟨s.toArray⟩ : ByteArray).data.toList = s from rfl]
  by_cases h2 : Lib.indexByte s 0 < 0
  case neg =>
    have d2 : decide (0 ≤ Lib.indexByte s 0) = true := decide_eq_true (by omega)
    have : Z = false := by rw [hZ, pathOk, decide_eq_false h2]; simp
    subst this
    repeat (first | refine wA ?_ | refine wB ?_ | refine wC rfl ?_ | refine wD rfl ?_ | refine wE ?_ | refine wF (by omega) ?_ | ((first | refine wG ?_ | refine wH ?_ | refine wI ?_ | refine wJ ?_ | refine wK ?_ | refine wL ?_); simp (disch := omega) only [wP, wZ, undef, UInt8.reduceToNat, Nat.reduceOr, Nat.reduceAnd, Nat.reduceXor, Nat.reduceDiv, if_pos, if_neg, aStore, frz, AV.flat, ↓reduceIte, ne_eq, reduceCtorEq, Int.reduceToNat, Nat.reduceEqDiff, Nat.reduceAdd, Nat.reduceSub, Nat.reduceMul, Int.reduceAdd, Int.reduceMul, Int.reduceSub, Int.reduceLT, Int.reduceLE, Int.reduceEq, Int.reduceNe, Nat.reduceLeDiff, Nat.reduceLT, Int.reduceNeg, Nat.reducePow, Nat.reduceMod, ByteArray.size, d, d2]))
  have d2 : decide (0 ≤ Lib.indexByte s 0) = false := decide_eq_false (by omega)
  repeat (first | refine wA ?_ | refine wB ?_ | refine wC rfl ?_ | refine wD rfl ?_ | refine wE ?_ | refine wF (by omega) ?_ | ((first | refine wG ?_ | refine wH ?_ | refine wI ?_ | refine wJ ?_ | refine wK ?_ | refine wL ?_); simp (disch := omega) only [wP, wZ, undef, UInt8.reduceToNat, Nat.reduceOr, Nat.reduceAnd, Nat.reduceXor, Nat.reduceDiv, if_pos, if_neg, aStore, frz, AV.flat, ↓reduceIte, ne_eq, reduceCtorEq, Int.reduceToNat, Nat.reduceEqDiff, Nat.reduceAdd, Nat.reduceSub, Nat.reduceMul, Int.reduceAdd, Int.reduceMul, Int.reduceSub, Int.reduceLT, Int.reduceLE, Int.reduceEq, Int.reduceNe, Nat.reduceLeDiff, Nat.reduceLT, Int.reduceNeg, Nat.reducePow, Nat.reduceMod, ByteArray.size, d, d2]))
  refine goC_h [] 1000 (SplitSeq_c s 47) (by simp) (by simp) (by simp [handOk]) (by simp [ren.renL, ren, str]) ?_
  repeat (first | refine wA ?_ | refine wB ?_ | refine wC rfl ?_ | refine wD rfl ?_ | refine wE ?_ | refine wF (by omega) ?_ | ((first | refine wG ?_ | refine wH ?_ | refine wI ?_ | refine wJ ?_ | refine wK ?_ | refine wL ?_); simp (disch := omega) only [wP, wZ, undef, UInt8.reduceToNat, Nat.reduceOr, Nat.reduceAnd, Nat.reduceXor, Nat.reduceDiv, if_pos, if_neg, aStore, frz, AV.flat, ↓reduceIte, ne_eq, reduceCtorEq, Int.reduceToNat, Nat.reduceEqDiff, Nat.reduceAdd, Nat.reduceSub, Nat.reduceMul, Int.reduceAdd, Int.reduceMul, Int.reduceSub, Int.reduceLT, Int.reduceLE, Int.reduceEq, Int.reduceNe, Nat.reduceLeDiff, Nat.reduceLT, Int.reduceNeg, Nat.reducePow, Nat.reduceMod, ByteArray.size]))
  refine SWp.le (st' := mk 25 6 [(2, .op 2 0 0), (13, .clo n_strings_splitSeq_1 [.op 1104 4 0, .op 1103 3 0, .op 1105 5 0])] [(2, 0, .row false [.sc (.bool false)]), (1104, 4, .row false [.sc (.string ⟨#[47]⟩)]), (1103, 3, .row false [str s]), (1105, 5, .row false [int 0])]) (le_mk rfl ?_ ?_ ?_) ?_
  iterate 3 (case _ => simp (disch := omega) only [wP, wZ, undef, UInt8.reduceToNat, Nat.reduceOr, Nat.reduceAnd, Nat.reduceXor, Nat.reduceDiv, if_pos, if_neg, aStore, frz, AV.flat, ↓reduceIte, ne_eq, reduceCtorEq, Int.reduceToNat, Nat.reduceEqDiff, Nat.reduceAdd, Nat.reduceSub, Nat.reduceMul, Int.reduceAdd, Int.reduceMul, Int.reduceSub, Int.reduceLT, Int.reduceLE, Int.reduceEq, Int.reduceNe, Nat.reduceLeDiff, Nat.reduceLT, Int.reduceNeg, Nat.reducePow, Nat.reduceMod, ByteArray.size])
  refine SWp.range (gf := n_strings_splitSeq_1) (caps := [.op 1104 4 0, .op 1103 3 0, .op 1105 5 0]) (hin := [(1104, 4, [.sc (.string ⟨#[47]⟩)]), (1103, 3, [str s]), (1105, 5, [int 0])]) (xs := (cutL 47 s).map txt) (look [(2, .op 2 0 0)]) (fun _ : Unit => (lookH [(2, 0, .row false [.sc (.bool false)])], 6)) (fun _ k => ((cutL 47 s).take k).all partOk = true) () rfl (by kernel_rfl) ?_ (split_it 1104 4 1103 3 1105 5 6 (by omega) (by omega) s hs 47) (by show 14 < 25; omega) rfl ?_ ?_ ?_ ?_
  · intro q hq
    simp only [List.mem_cons, List.not_mem_nil, or_false] at hq
    rcases hq with rfl | rfl | rfl <;> rfl
  · refine le_mk rfl ?_ ?_ ?_
    iterate 3 (case _ => simp (disch := omega) only [wP, wZ, undef, UInt8.reduceToNat, Nat.reduceOr, Nat.reduceAnd, Nat.reduceXor, Nat.reduceDiv, if_pos, if_neg, aStore, frz, AV.flat, ↓reduceIte, ne_eq, reduceCtorEq, Int.reduceToNat, Nat.reduceEqDiff, Nat.reduceAdd, Nat.reduceSub, Nat.reduceMul, Int.reduceAdd, Int.reduceMul, Int.reduceSub, Int.reduceLT, Int.reduceLE, Int.reduceEq, Int.reduceNe, Nat.reduceLeDiff, Nat.reduceLT, Int.reduceNeg, Nat.reducePow, Nat.reduceMod, ByteArray.size])
  · intro q hq
    simp only [List.mem_cons, List.not_mem_nil, or_false] at hq
    rcases hq with rfl | rfl | rfl <;> rfl
  · intro L _ k x hi hx
    show @SWp _ _ L _ _ (mk 25 6 [(14, .sc x), (2, .op 2 0 0)] [(2, 0, .row false [.sc (.bool false)])])
    rw [List.getElem?_map] at hx
    obtain ⟨p, hp, rfl⟩ := Option.map_eq_some_iff.1 hx
    have hbad : partOk p = false → Z = false := fun h => by
      rw [hZ, pathOk]
      have : (cutL 47 s).all partOk = false := by
        rw [List.all_eq_false]
        exact ⟨p, List.mem_of_getElem? hp, by rw [h]; simp⟩
      rw [this, Bool.and_false]
    by_cases p1 : p = []
    · subst p1
      have hz := hbad rfl
      subst hz
      repeat (first | refine wA ?_ | refine wB ?_ | refine wC rfl ?_ | refine wD rfl ?_ | refine wE ?_ | refine wF (by omega) ?_ | ((first | refine wG ?_ | refine wH ?_ | refine wI ?_ | refine wJ ?_ | refine wK ?_ | refine wL ?_); simp (disch := omega) only [wP, wZ, undef, UInt8.reduceToNat, Nat.reduceOr, Nat.reduceAnd, Nat.reduceXor, Nat.reduceDiv, if_pos, if_neg, aStore, frz, AV.flat, ↓reduceIte, ne_eq, reduceCtorEq, Int.reduceToNat, Nat.reduceEqDiff, Nat.reduceAdd, Nat.reduceSub, Nat.reduceMul, Int.reduceAdd, Int.reduceMul, Int.reduceSub, Int.reduceLT, Int.reduceLE, Int.reduceEq, Int.reduceNe, Nat.reduceLeDiff, Nat.reduceLT, Int.reduceNeg, Nat.reducePow, Nat.reduceMod, ByteArray.size, txt]))
      rw [rq_ret]
      simp (disch := omega) only [wP, wZ, undef, UInt8.reduceToNat, Nat.reduceOr, Nat.reduceAnd, Nat.reduceXor, Nat.reduceDiv, if_pos, if_neg, aStore, frz, AV.flat, ↓reduceIte, ne_eq, reduceCtorEq, Int.reduceToNat, Nat.reduceEqDiff, Nat.reduceAdd, Nat.reduceSub, Nat.reduceMul, Int.reduceAdd, Int.reduceMul, Int.reduceSub, Int.reduceLT, Int.reduceLE, Int.reduceEq, Int.reduceNe, Nat.reduceLeDiff, Nat.reduceLT, Int.reduceNeg, Nat.reducePow, Nat.reduceMod, ByteArray.size]
    by_cases p2 : p = [46]
    · subst p2
      have hz := hbad rfl
      subst hz
      repeat (first | refine wA ?_ | refine wB ?_ | refine wC rfl ?_ | refine wD rfl ?_ | refine wE ?_ | refine wF (by omega) ?_ | ((first | refine wG ?_ | refine wH ?_ | refine wI ?_ | refine wJ ?_ | refine wK ?_ | refine wL ?_); simp (disch := omega) only [wP, wZ, undef, UInt8.reduceToNat, Nat.reduceOr, Nat.reduceAnd, Nat.reduceXor, Nat.reduceDiv, if_pos, if_neg, aStore, frz, AV.flat, ↓reduceIte, ne_eq, reduceCtorEq, Int.reduceToNat, Nat.reduceEqDiff, Nat.reduceAdd, Nat.reduceSub, Nat.reduceMul, Int.reduceAdd, Int.reduceMul, Int.reduceSub, Int.reduceLT, Int.reduceLE, Int.reduceEq, Int.reduceNe, Nat.reduceLeDiff, Nat.reduceLT, Int.reduceNeg, Nat.reducePow, Nat.reduceMod, ByteArray.size, txt, List.cons_ne_self, List.cons_ne_nil]))
      rw [rq_ret]
      simp (disch := omega) only [wP, wZ, undef, UInt8.reduceToNat, Nat.reduceOr, Nat.reduceAnd, Nat.reduceXor, Nat.reduceDiv, if_pos, if_neg, aStore, frz, AV.flat, ↓reduceIte, ne_eq, reduceCtorEq, Int.reduceToNat, Nat.reduceEqDiff, Nat.reduceAdd, Nat.reduceSub, Nat.reduceMul, Int.reduceAdd, Int.reduceMul, Int.reduceSub, Int.reduceLT, Int.reduceLE, Int.reduceEq, Int.reduceNe, Nat.reduceLeDiff, Nat.reduceLT, Int.reduceNeg, Nat.reducePow, Nat.reduceMod, ByteArray.size]
    by_cases p3 : p = [46, 46]
    · subst p3
      have hz := hbad rfl
      subst hz
      repeat (first | refine wA ?_ | refine wB ?_ | refine wC rfl ?_ | refine wD rfl ?_ | refine wE ?_ | refine wF (by omega) ?_ | ((first | refine wG ?_ | refine wH ?_ | refine wI ?_ | refine wJ ?_ | refine wK ?_ | refine wL ?_); simp (disch := omega) only [wP, wZ, undef, UInt8.reduceToNat, Nat.reduceOr, Nat.reduceAnd, Nat.reduceXor, Nat.reduceDiv, if_pos, if_neg, aStore, frz, AV.flat, ↓reduceIte, ne_eq, reduceCtorEq, Int.reduceToNat, Nat.reduceEqDiff, Nat.reduceAdd, Nat.reduceSub, Nat.reduceMul, Int.reduceAdd, Int.reduceMul, Int.reduceSub, Int.reduceLT, Int.reduceLE, Int.reduceEq, Int.reduceNe, Nat.reduceLeDiff, Nat.reduceLT, Int.reduceNeg, Nat.reducePow, Nat.reduceMod, ByteArray.size, txt, List.cons_ne_self, List.cons_ne_nil]))
      rw [rq_ret]
      simp (disch := omega) only [wP, wZ, undef, UInt8.reduceToNat, Nat.reduceOr, Nat.reduceAnd, Nat.reduceXor, Nat.reduceDiv, if_pos, if_neg, aStore, frz, AV.flat, ↓reduceIte, ne_eq, reduceCtorEq, Int.reduceToNat, Nat.reduceEqDiff, Nat.reduceAdd, Nat.reduceSub, Nat.reduceMul, Int.reduceAdd, Int.reduceMul, Int.reduceSub, Int.reduceLT, Int.reduceLE, Int.reduceEq, Int.reduceNe, Nat.reduceLeDiff, Nat.reduceLT, Int.reduceNeg, Nat.reducePow, Nat.reduceMod, ByteArray.size]
    have e1 : decide (p = []) = false := decide_eq_false p1
    have e2 : decide (p = [46]) = false := decide_eq_false p2
    have e3 : decide (p = [46, 46]) = false := decide_eq_false p3
    repeat (first | refine wA ?_ | refine wB ?_ | refine wC rfl ?_ | refine wD rfl ?_ | refine wE ?_ | refine wF (by omega) ?_ | ((first | refine wG ?_ | refine wH ?_ | refine wI ?_ | refine wJ ?_ | refine wK ?_ | refine wL ?_); simp (disch := omega) only [wP, wZ, undef, UInt8.reduceToNat, Nat.reduceOr, Nat.reduceAnd, Nat.reduceXor, Nat.reduceDiv, if_pos, if_neg, aStore, frz, AV.flat, ↓reduceIte, ne_eq, reduceCtorEq, Int.reduceToNat, Nat.reduceEqDiff, Nat.reduceAdd, Nat.reduceSub, Nat.reduceMul, Int.reduceAdd, Int.reduceMul, Int.reduceSub, Int.reduceLT, Int.reduceLE, Int.reduceEq, Int.reduceNe, Nat.reduceLeDiff, Nat.reduceLT, Int.reduceNeg, Nat.reducePow, Nat.reduceMod, ByteArray.size, txt, e1, e2, e3]))
    have hg : partOk p = true := by simp [partOk, p1, p2, p3]
    refine ⟨(), all_takeS hi hp hg, le_mk rfl ?_ ?_ ?_⟩
    iterate 3 (case _ => simp (disch := omega) only [wP, wZ, undef, UInt8.reduceToNat, Nat.reduceOr, Nat.reduceAnd, Nat.reduceXor, Nat.reduceDiv, if_pos, if_neg, aStore, frz, AV.flat, ↓reduceIte, ne_eq, reduceCtorEq, Int.reduceToNat, Nat.reduceEqDiff, Nat.reduceAdd, Nat.reduceSub, Nat.reduceMul, Int.reduceAdd, Int.reduceMul, Int.reduceSub, Int.reduceLT, Int.reduceLE, Int.reduceEq, Int.reduceNe, Nat.reduceLeDiff, Nat.reduceLT, Int.reduceNeg, Nat.reducePow, Nat.reduceMod, ByteArray.size])
  · intro _ hi
    have hz : Z = true := by
      rw [List.take_of_length_le (by simp)] at hi
      rw [hZ, pathOk, decide_eq_true h1, decide_eq_true h2, hi]
      rfl
    subst hz
    show @SWp _ _ _ _ _ (mk 25 6 [(2, .op 2 0 0)] [(2, 0, .row false [.sc (.bool false)])])
    repeat (first | refine wA ?_ | refine wB ?_ | refine wC rfl ?_ | refine wD rfl ?_ | refine wE ?_ | refine wF (by omega) ?_ | ((first | refine wG ?_ | refine wH ?_ | refine wI ?_ | refine wJ ?_ | refine wK ?_ | refine wL ?_); simp (disch := omega) only [wP, wZ, undef, UInt8.reduceToNat, Nat.reduceOr, Nat.reduceAnd, Nat.reduceXor, Nat.reduceDiv, if_pos, if_neg, aStore, frz, AV.flat, ↓reduceIte, ne_eq, reduceCtorEq, Int.reduceToNat, Nat.reduceEqDiff, Nat.reduceAdd, Nat.reduceSub, Nat.reduceMul, Int.reduceAdd, Int.reduceMul, Int.reduceSub, Int.reduceLT, Int.reduceLE, Int.reduceEq, Int.reduceNe, Nat.reduceLeDiff, Nat.reduceLT, Int.reduceNeg, Nat.reducePow, Nat.reduceMod, ByteArray.size]))
    done
end Go.Proofs.YtbmmdkbinlnogaaDoor.Aw
namespace Go.Proofs.YtbmmdkbinlnogaaDoor.Aw
open Go
set_option linter.unusedSimpArgs false
set_option linter.unusedVariables false
end Go.Proofs.YtbmmdkbinlnogaaDoor.Aw
namespace Go.Proofs.YtbmmdkbinlnogaaDoor.Aw
open Go
set_option linter.unusedSimpArgs false
set_option linter.unusedVariables false
end Go.Proofs.YtbmmdkbinlnogaaDoor.Aw
namespace Go.Proofs.YtbmmdkbinlnogaaDoor.Aw
open Go
set_option linter.unusedSimpArgs false
set_option linter.unusedVariables false
end Go.Proofs.YtbmmdkbinlnogaaDoor.Aw
namespace Go.Proofs.YtbmmdkbinlnogaaDoor.Aw
open Go
set_option linter.unusedSimpArgs false
set_option linter.unusedVariables false
end Go.Proofs.YtbmmdkbinlnogaaDoor.Aw
namespace Go.Proofs.YtbmmdkbinlnogaaDoor.Aw
open Go
set_option linter.unusedSimpArgs false
set_option linter.unusedVariables false
end Go.Proofs.YtbmmdkbinlnogaaDoor.Aw
namespace Go.Proofs.YtbmmdkbinlnogaaDoor.Aw
open Go
set_option linter.unusedSimpArgs false
set_option linter.unusedVariables false
structure Ent where
  path : List UInt8
  kind : Int
  mode : Int
  uid : Int
  gid : Int
  owner : List UInt8
  group : List UInt8
  mtime : Int
  link : List UInt8
  nl : Bool
  data : List UInt8
def entL (e : Ent) : List AV := [str e.path, int e.kind, int e.mode, int e.uid, int e.gid, str e.owner, str e.group, int e.mtime, str e.link, .sl e.nl none (e.data.map u8)]
def entV (e : Ent) : AV := .agg (entL e)
theorem free_entV {e : Ent} : AV.free.freeL [entV e] = true := by simp only [entV, entL, AV.free, AV.free.freeL, str, int, free_u8, Bool.and_self]
theorem free_ents {l : List Ent} : AV.free.freeL (l.map entV) = true := freeL_iff.2 fun x hx => by
  obtain ⟨m, _, rfl⟩ := List.mem_map.1 hx
  simp only [entV, entL, AV.free, AV.free.freeL, str, int, free_u8, Bool.and_self]
theorem getD_ents {l : List Ent} {k : Nat} (h : k < l.length) : (l.map entV).getD k .junk = entV l[k] := by simp [List.getD, List.getElem?_eq_getElem h]
def upTo (most n : Int) : Bool := decide (0 ≤ n) && decide (n ≤ most)
def numFit (e : Ent) : Bool := upTo 4095 e.mode && (upTo 2097151 e.uid && (upTo 2097151 e.gid && upTo 8589934591 e.mtime))
set_option maxRecDepth 100000 in
theorem isUpTo_c [Tabs Tryd.prog] (most n : Int) : Con Tryd.prog n_entry_isUpTo [int most, int n] (boo (upTo most n)) := by
  refine Con.of' mix Tryd.func54 rfl Tryd.ntmps54 e_entry_isUpTo r_entry_isUpTo (by simp) rfl rfl ?_
  unfold s_entry_isUpTo
  obtain ⟨Z, hZ⟩ : ∃ Z, Z = upTo most n := ⟨_, rfl⟩
  rw [← hZ]
  rw [upTo] at hZ
  by_cases h1 : 0 ≤ n
  · have d1 : decide (0 ≤ n) = true := decide_eq_true h1
    rw [d1, Bool.true_and] at hZ
    subst hZ
    repeat (first | refine wA ?_ | refine wB ?_ | refine wC rfl ?_ | refine wD rfl ?_ | refine wE ?_ | refine wF (by omega) ?_ | ((first | refine wG ?_ | refine wH ?_ | refine wI ?_ | refine wJ ?_ | refine wK ?_ | refine wL ?_); simp (disch := omega) only [wP, wZ, undef, UInt8.reduceToNat, Nat.reduceOr, Nat.reduceAnd, Nat.reduceXor, Nat.reduceDiv, if_pos, if_neg, aStore, frz, AV.flat, ↓reduceIte, ne_eq, reduceCtorEq, Int.reduceToNat, Nat.reduceEqDiff, Nat.reduceAdd, Nat.reduceSub, Nat.reduceMul, Int.reduceAdd, Int.reduceMul, Int.reduceSub, Int.reduceLT, Int.reduceLE, Int.reduceEq, Int.reduceNe, Nat.reduceLeDiff, Nat.reduceLT, Int.reduceNeg, Nat.reducePow, Nat.reduceMod, ByteArray.size, d1, boo]))
  · have d1 : decide (0 ≤ n) = false := decide_eq_false h1
    rw [d1, Bool.false_and] at hZ
    subst hZ
    repeat (first | refine wA ?_ | refine wB ?_ | refine wC rfl ?_ | refine wD rfl ?_ | refine wE ?_ | refine wF (by omega) ?_ | ((first | refine wG ?_ | refine wH ?_ | refine wI ?_ | refine wJ ?_ | refine wK ?_ | refine wL ?_); simp (disch := omega) only [wP, wZ, undef, UInt8.reduceToNat, Nat.reduceOr, Nat.reduceAnd, Nat.reduceXor, Nat.reduceDiv, if_pos, if_neg, aStore, frz, AV.flat, ↓reduceIte, ne_eq, reduceCtorEq, Int.reduceToNat, Nat.reduceEqDiff, Nat.reduceAdd, Nat.reduceSub, Nat.reduceMul, Int.reduceAdd, Int.reduceMul, Int.reduceSub, Int.reduceLT, Int.reduceLE, Int.reduceEq, Int.reduceNe, Nat.reduceLeDiff, Nat.reduceLT, Int.reduceNeg, Nat.reducePow, Nat.reduceMod, ByteArray.size, d1, boo]))
set_option maxHeartbeats 1000000 in
set_option maxRecDepth 100000 in
theorem numbersFit_c [Tabs Tryd.prog] (e : Ent) : Con Tryd.prog n_entry_numbersFit [entV e] (boo (numFit e)) := by
  refine Con.of' mix Tryd.func33 rfl Tryd.ntmps33 e_entry_numbersFit r_entry_numbersFit (by simp) free_entV rfl ?_
  unfold s_entry_numbersFit
  obtain ⟨Z, hZ⟩ : ∃ Z, Z = numFit e := ⟨_, rfl⟩
  rw [← hZ]
  rw [numFit] at hZ
  repeat (first | refine wA ?_ | refine wB ?_ | refine wC rfl ?_ | refine wD rfl ?_ | refine wE ?_ | refine wF (by omega) ?_ | ((first | refine wG ?_ | refine wH ?_ | refine wI ?_ | refine wJ ?_ | refine wK ?_ | refine wL ?_); simp (disch := omega) only [wP, wZ, undef, UInt8.reduceToNat, Nat.reduceOr, Nat.reduceAnd, Nat.reduceXor, Nat.reduceDiv, if_pos, if_neg, aStore, frz, AV.flat, ↓reduceIte, ne_eq, reduceCtorEq, Int.reduceToNat, Nat.reduceEqDiff, Nat.reduceAdd, Nat.reduceSub, Nat.reduceMul, Int.reduceAdd, Int.reduceMul, Int.reduceSub, Int.reduceLT, Int.reduceLE, Int.reduceEq, Int.reduceNe, Nat.reduceLeDiff, Nat.reduceLT, Int.reduceNeg, Nat.reducePow, Nat.reduceMod, ByteArray.size, entV, entL]))
  refine goC_p _ (.inl ⟨rfl, isUpTo_c 4095 e.mode⟩) ?_
  cases h1 : upTo 4095 e.mode
  · rw [h1, Bool.false_and] at hZ
    subst hZ
    repeat (first | refine wA ?_ | refine wB ?_ | refine wC rfl ?_ | refine wD rfl ?_ | refine wE ?_ | refine wF (by omega) ?_ | ((first | refine wG ?_ | refine wH ?_ | refine wI ?_ | refine wJ ?_ | refine wK ?_ | refine wL ?_); simp (disch := omega) only [wP, wZ, undef, UInt8.reduceToNat, Nat.reduceOr, Nat.reduceAnd, Nat.reduceXor, Nat.reduceDiv, if_pos, if_neg, aStore, frz, AV.flat, ↓reduceIte, ne_eq, reduceCtorEq, Int.reduceToNat, Nat.reduceEqDiff, Nat.reduceAdd, Nat.reduceSub, Nat.reduceMul, Int.reduceAdd, Int.reduceMul, Int.reduceSub, Int.reduceLT, Int.reduceLE, Int.reduceEq, Int.reduceNe, Nat.reduceLeDiff, Nat.reduceLT, Int.reduceNeg, Nat.reducePow, Nat.reduceMod, ByteArray.size, boo]))
  rw [h1, Bool.true_and] at hZ
  repeat (first | refine wA ?_ | refine wB ?_ | refine wC rfl ?_ | refine wD rfl ?_ | refine wE ?_ | refine wF (by omega) ?_ | ((first | refine wG ?_ | refine wH ?_ | refine wI ?_ | refine wJ ?_ | refine wK ?_ | refine wL ?_); simp (disch := omega) only [wP, wZ, undef, UInt8.reduceToNat, Nat.reduceOr, Nat.reduceAnd, Nat.reduceXor, Nat.reduceDiv, if_pos, if_neg, aStore, frz, AV.flat, ↓reduceIte, ne_eq, reduceCtorEq, Int.reduceToNat, Nat.reduceEqDiff, Nat.reduceAdd, Nat.reduceSub, Nat.reduceMul, Int.reduceAdd, Int.reduceMul, Int.reduceSub, Int.reduceLT, Int.reduceLE, Int.reduceEq, Int.reduceNe, Nat.reduceLeDiff, Nat.reduceLT, Int.reduceNeg, Nat.reducePow, Nat.reduceMod, ByteArray.size, boo]))
  refine goC_p _ (.inl ⟨rfl, isUpTo_c 2097151 e.uid⟩) ?_
  cases h2 : upTo 2097151 e.uid
  · rw [h2, Bool.false_and] at hZ
    subst hZ
    repeat (first | refine wA ?_ | refine wB ?_ | refine wC rfl ?_ | refine wD rfl ?_ | refine wE ?_ | refine wF (by omega) ?_ | ((first | refine wG ?_ | refine wH ?_ | refine wI ?_ | refine wJ ?_ | refine wK ?_ | refine wL ?_); simp (disch := omega) only [wP, wZ, undef, UInt8.reduceToNat, Nat.reduceOr, Nat.reduceAnd, Nat.reduceXor, Nat.reduceDiv, if_pos, if_neg, aStore, frz, AV.flat, ↓reduceIte, ne_eq, reduceCtorEq, Int.reduceToNat, Nat.reduceEqDiff, Nat.reduceAdd, Nat.reduceSub, Nat.reduceMul, Int.reduceAdd, Int.reduceMul, Int.reduceSub, Int.reduceLT, Int.reduceLE, Int.reduceEq, Int.reduceNe, Nat.reduceLeDiff, Nat.reduceLT, Int.reduceNeg, Nat.reducePow, Nat.reduceMod, ByteArray.size, boo]))
  rw [h2, Bool.true_and] at hZ
  repeat (first | refine wA ?_ | refine wB ?_ | refine wC rfl ?_ | refine wD rfl ?_ | refine wE ?_ | refine wF (by omega) ?_ | ((first | refine wG ?_ | refine wH ?_ | refine wI ?_ | refine wJ ?_ | refine wK ?_ | refine wL ?_); simp (disch := omega) only [wP, wZ, undef, UInt8.reduceToNat, Nat.reduceOr, Nat.reduceAnd, Nat.reduceXor, Nat.reduceDiv, if_pos, if_neg, aStore, frz, AV.flat, ↓reduceIte, ne_eq, reduceCtorEq, Int.reduceToNat, Nat.reduceEqDiff, Nat.reduceAdd, Nat.reduceSub, Nat.reduceMul, Int.reduceAdd, Int.reduceMul, Int.reduceSub, Int.reduceLT, Int.reduceLE, Int.reduceEq, Int.reduceNe, Nat.reduceLeDiff, Nat.reduceLT, Int.reduceNeg, Nat.reducePow, Nat.reduceMod, ByteArray.size, boo]))
  refine goC_p _ (.inl ⟨rfl, isUpTo_c 2097151 e.gid⟩) ?_
  cases h3 : upTo 2097151 e.gid
  · rw [h3, Bool.false_and] at hZ
    subst hZ
    repeat (first | refine wA ?_ | refine wB ?_ | refine wC rfl ?_ | refine wD rfl ?_ | refine wE ?_ | refine wF (by omega) ?_ | ((first | refine wG ?_ | refine wH ?_ | refine wI ?_ | refine wJ ?_ | refine wK ?_ | refine wL ?_); simp (disch := omega) only [wP, wZ, undef, UInt8.reduceToNat, Nat.reduceOr, Nat.reduceAnd, Nat.reduceXor, Nat.reduceDiv, if_pos, if_neg, aStore, frz, AV.flat, ↓reduceIte, ne_eq, reduceCtorEq, Int.reduceToNat, Nat.reduceEqDiff, Nat.reduceAdd, Nat.reduceSub, Nat.reduceMul, Int.reduceAdd, Int.reduceMul, Int.reduceSub, Int.reduceLT, Int.reduceLE, Int.reduceEq, Int.reduceNe, Nat.reduceLeDiff, Nat.reduceLT, Int.reduceNeg, Nat.reducePow, Nat.reduceMod, ByteArray.size, boo]))
  rw [h3, Bool.true_and] at hZ
  repeat (first | refine wA ?_ | refine wB ?_ | refine wC rfl ?_ | refine wD rfl ?_ | refine wE ?_ | refine wF (by omega) ?_ | ((first | refine wG ?_ | refine wH ?_ | refine wI ?_ | refine wJ ?_ | refine wK ?_ | refine wL ?_); simp (disch := omega) only [wP, wZ, undef, UInt8.reduceToNat, Nat.reduceOr, Nat.reduceAnd, Nat.reduceXor, Nat.reduceDiv, if_pos, if_neg, aStore, frz, AV.flat, ↓reduceIte, ne_eq, reduceCtorEq, Int.reduceToNat, Nat.reduceEqDiff, Nat.reduceAdd, Nat.reduceSub, Nat.reduceMul, Int.reduceAdd, Int.reduceMul, Int.reduceSub, Int.reduceLT, Int.reduceLE, Int.reduceEq, Int.reduceNe, Nat.reduceLeDiff, Nat.reduceLT, Int.reduceNeg, Nat.reducePow, Nat.reduceMod, ByteArray.size, boo]))
  refine goC_p _ (.inl ⟨rfl, isUpTo_c 8589934591 e.mtime⟩) ?_
  subst hZ
  repeat (first | refine wA ?_ | refine wB ?_ | refine wC rfl ?_ | refine wD rfl ?_ | refine wE ?_ | refine wF (by omega) ?_ | ((first | refine wG ?_ | refine wH ?_ | refine wI ?_ | refine wJ ?_ | refine wK ?_ | refine wL ?_); simp (disch := omega) only [wP, wZ, undef, UInt8.reduceToNat, Nat.reduceOr, Nat.reduceAnd, Nat.reduceXor, Nat.reduceDiv, if_pos, if_neg, aStore, frz, AV.flat, ↓reduceIte, ne_eq, reduceCtorEq, Int.reduceToNat, Nat.reduceEqDiff, Nat.reduceAdd, Nat.reduceSub, Nat.reduceMul, Int.reduceAdd, Int.reduceMul, Int.reduceSub, Int.reduceLT, Int.reduceLE, Int.reduceEq, Int.reduceNe, Nat.reduceLeDiff, Nat.reduceLT, Int.reduceNeg, Nat.reducePow, Nat.reduceMod, ByteArray.size, boo]))
def hasB (s : List UInt8) (c : UInt8) : Bool := decide (0 ≤ Lib.indexByte s c)
def ownOk (s : List UInt8) : Bool := decide (s.length ≤ 31) && (!hasB s 0 && (!hasB s 10 && !hasB s 58))
def alikeB (a b : Ent) : Bool := decide (a.mode = b.mode) && (decide (a.uid = b.uid) && (decide (a.gid = b.gid) && (decide (a.owner = b.owner) && (decide (a.group = b.group) && decide (a.mtime = b.mtime)))))
set_option maxHeartbeats 2000000 in
set_option maxRecDepth 100000 in
theorem ref_alike_c [Tabs Tryd.prog] (a b : Ent) : Con Tryd.prog n_drayageref07_alike [entV a, entV b] (boo (alikeB a b)) := by
  refine Con.of' mix Tryd.func41 rfl Tryd.ntmps41 e_drayageref07_alike r_drayageref07_alike (by simp) (by simp only [entV, entL, AV.free, AV.free.freeL, str, int, free_u8, Bool.and_self]) rfl ?_
  unfold s_drayageref07_alike
  obtain ⟨Z, hZ⟩ : ∃ Z, Z = alikeB a b := ⟨_, rfl⟩
  rw [← hZ]
  rw [alikeB] at hZ
  by_cases h0 : a.mode = b.mode
  case neg =>
    have d0 : decide (a.mode = b.mode) = false := decide_eq_false h0
    rw [d0, Bool.false_and] at hZ
    subst hZ
    repeat (first | refine wA ?_ | refine wB ?_ | refine wC rfl ?_ | refine wD rfl ?_ | refine wE ?_ | refine wF (by omega) ?_ | ((first | refine wG ?_ | refine wH ?_ | refine wI ?_ | refine wJ ?_ | refine wK ?_ | refine wL ?_); simp (disch := omega) only [wP, wZ, undef, UInt8.reduceToNat, Nat.reduceOr, Nat.reduceAnd, Nat.reduceXor, Nat.reduceDiv, if_pos, if_neg, aStore, frz, AV.flat, ↓reduceIte, ne_eq, reduceCtorEq, Int.reduceToNat, Nat.reduceEqDiff, Nat.reduceAdd, Nat.reduceSub, Nat.reduceMul, Int.reduceAdd, Int.reduceMul, Int.reduceSub, Int.reduceLT, Int.reduceLE, Int.reduceEq, Int.reduceNe, Nat.reduceLeDiff, Nat.reduceLT, Int.reduceNeg, Nat.reducePow, Nat.reduceMod, ByteArray.size, entV, entL, boo, d0]))
  have d0 : decide (a.mode = b.mode) = true := decide_eq_true h0
  rw [d0, Bool.true_and] at hZ
  by_cases h1 : a.uid = b.uid
  case neg =>
    have d1 : decide (a.uid = b.uid) = false := decide_eq_false h1
    rw [d1, Bool.false_and] at hZ
    subst hZ
    repeat (first | refine wA ?_ | refine wB ?_ | refine wC rfl ?_ | refine wD rfl ?_ | refine wE ?_ | refine wF (by omega) ?_ | ((first | refine wG ?_ | refine wH ?_ | refine wI ?_ | refine wJ ?_ | refine wK ?_ | refine wL ?_); simp (disch := omega) only [wP, wZ, undef, UInt8.reduceToNat, Nat.reduceOr, Nat.reduceAnd, Nat.reduceXor, Nat.reduceDiv, if_pos, if_neg, aStore, frz, AV.flat, ↓reduceIte, ne_eq, reduceCtorEq, Int.reduceToNat, Nat.reduceEqDiff, Nat.reduceAdd, Nat.reduceSub, Nat.reduceMul, Int.reduceAdd, Int.reduceMul, Int.reduceSub, Int.reduceLT, Int.reduceLE, Int.reduceEq, Int.reduceNe, Nat.reduceLeDiff, Nat.reduceLT, Int.reduceNeg, Nat.reducePow, Nat.reduceMod, ByteArray.size, entV, entL, boo, d0, d1]))
  have d1 : decide (a.uid = b.uid) = true := decide_eq_true h1
  rw [d1, Bool.true_and] at hZ
  by_cases h2 : a.gid = b.gid
  case neg =>
    have d2 : decide (a.gid = b.gid) = false := decide_eq_false h2
    rw [d2, Bool.false_and] at hZ
    subst hZ
    repeat (first | refine wA ?_ | refine wB ?_ | refine wC rfl ?_ | refine wD rfl ?_ | refine wE ?_ | refine wF (by omega) ?_ | ((first | refine wG ?_ | refine wH ?_ | refine wI ?_ | refine wJ ?_ | refine wK ?_ | refine wL ?_); simp (disch := omega) only [wP, wZ, undef, UInt8.reduceToNat, Nat.reduceOr, Nat.reduceAnd, Nat.reduceXor, Nat.reduceDiv, if_pos, if_neg, aStore, frz, AV.flat, ↓reduceIte, ne_eq, reduceCtorEq, Int.reduceToNat, Nat.reduceEqDiff, Nat.reduceAdd, Nat.reduceSub, Nat.reduceMul, Int.reduceAdd, Int.reduceMul, Int.reduceSub, Int.reduceLT, Int.reduceLE, Int.reduceEq, Int.reduceNe, Nat.reduceLeDiff, Nat.reduceLT, Int.reduceNeg, Nat.reducePow, Nat.reduceMod, ByteArray.size, entV, entL, boo, d0, d1, d2]))
  have d2 : decide (a.gid = b.gid) = true := decide_eq_true h2
  rw [d2, Bool.true_and] at hZ
  by_cases h3 : a.owner = b.owner
  case neg =>
    have d3 : decide (a.owner = b.owner) = false := decide_eq_false h3
    rw [d3, Bool.false_and] at hZ
    subst hZ
    repeat (first | refine wA ?_ | refine wB ?_ | refine wC rfl ?_ | refine wD rfl ?_ | refine wE ?_ | refine wF (by omega) ?_ | ((first | refine wG ?_ | refine wH ?_ | refine wI ?_ | refine wJ ?_ | refine wK ?_ | refine wL ?_); simp (disch := omega) only [wP, wZ, undef, UInt8.reduceToNat, Nat.reduceOr, Nat.reduceAnd, Nat.reduceXor, Nat.reduceDiv, if_pos, if_neg, aStore, frz, AV.flat, ↓reduceIte, ne_eq, reduceCtorEq, Int.reduceToNat, Nat.reduceEqDiff, Nat.reduceAdd, Nat.reduceSub, Nat.reduceMul, Int.reduceAdd, Int.reduceMul, Int.reduceSub, Int.reduceLT, Int.reduceLE, Int.reduceEq, Int.reduceNe, Nat.reduceLeDiff, Nat.reduceLT, Int.reduceNeg, Nat.reducePow, Nat.reduceMod, ByteArray.size, entV, entL, boo, d0, d1, d2, d3]))
  have d3 : decide (a.owner = b.owner) = true := decide_eq_true h3
  rw [d3, Bool.true_and] at hZ
  by_cases h4 : a.group = b.group
  case neg =>
    have d4 : decide (a.group = b.group) = false := decide_eq_false h4
    rw [d4, Bool.false_and] at hZ
    subst hZ
    repeat (first | refine wA ?_ | refine wB ?_ | refine wC rfl ?_ | refine wD rfl ?_ | refine wE ?_ | refine wF (by omega) ?_ | ((first | refine wG ?_ | refine wH ?_ | refine wI ?_ | refine wJ ?_ | refine wK ?_ | refine wL ?_); simp (disch := omega) only [wP, wZ, undef, UInt8.reduceToNat, Nat.reduceOr, Nat.reduceAnd, Nat.reduceXor, Nat.reduceDiv, if_pos, if_neg, aStore, frz, AV.flat, ↓reduceIte, ne_eq, reduceCtorEq, Int.reduceToNat, Nat.reduceEqDiff, Nat.reduceAdd, Nat.reduceSub, Nat.reduceMul, Int.reduceAdd, Int.reduceMul, Int.reduceSub, Int.reduceLT, Int.reduceLE, Int.reduceEq, Int.reduceNe, Nat.reduceLeDiff, Nat.reduceLT, Int.reduceNeg, Nat.reducePow, Nat.reduceMod, ByteArray.size, entV, entL, boo, d0, d1, d2, d3, d4]))
  have d4 : decide (a.group = b.group) = true := decide_eq_true h4
  rw [d4, Bool.true_and] at hZ
  subst hZ
  repeat (first | refine wA ?_ | refine wB ?_ | refine wC rfl ?_ | refine wD rfl ?_ | refine wE ?_ | refine wF (by omega) ?_ | ((first | refine wG ?_ | refine wH ?_ | refine wI ?_ | refine wJ ?_ | refine wK ?_ | refine wL ?_); simp (disch := omega) only [wP, wZ, undef, UInt8.reduceToNat, Nat.reduceOr, Nat.reduceAnd, Nat.reduceXor, Nat.reduceDiv, if_pos, if_neg, aStore, frz, AV.flat, ↓reduceIte, ne_eq, reduceCtorEq, Int.reduceToNat, Nat.reduceEqDiff, Nat.reduceAdd, Nat.reduceSub, Nat.reduceMul, Int.reduceAdd, Int.reduceMul, Int.reduceSub, Int.reduceLT, Int.reduceLE, Int.reduceEq, Int.reduceNe, Nat.reduceLeDiff, Nat.reduceLT, Int.reduceNeg, Nat.reducePow, Nat.reduceMod, ByteArray.size, entV, entL, boo, d0, d1, d2, d3, d4]))
end Go.Proofs.YtbmmdkbinlnogaaDoor.Aw
namespace Go.Proofs.YtbmmdkbinlnogaaDoor.Aw
open Go
set_option linter.unusedSimpArgs false
set_option linter.unusedVariables false
def kindOk (e : Ent) : Bool := decide (1 ≤ e.kind) && decide (e.kind ≤ 4)
def linkOk (e : Ent) : Bool := if e.kind = 3 then (!decide (e.link = []) && (decide (e.link.length ≤ 200) && (!hasB e.link 0 && !hasB e.link 10))) else if e.kind = 4 then (pathOk e.link && !decide (e.link = e.path)) else true
def argOk (e : Ent) : Bool := (decide (3 ≤ e.kind) || decide (e.link = [])) && (decide (e.kind = 1) || decide (e.data.length = 0))
def chk (e : Ent) : Int := if pathOk e.path = true then if kindOk e = true then if numFit e = true then if (ownOk e.owner && ownOk e.group) = true then if linkOk e = true then if argOk e = true then if e.data.length ≤ 1048576 then 0 else 4 else 1 else 10 else 10 else 1 else 9 else 10
def entS (e : Ent) : Prop := e.path.length ≤ 1000000 ∧ e.owner.length ≤ 1000000 ∧ e.group.length ≤ 1000000 ∧ e.link.length ≤ 1000000 ∧ e.data.length ≤ 10000000
end Go.Proofs.YtbmmdkbinlnogaaDoor.Aw
namespace Go.Proofs.YtbmmdkbinlnogaaDoor.Aw
open Go
set_option linter.unusedSimpArgs false
set_option linter.unusedVariables false
def abv (a b : List UInt8) : Bool := decide (a.length < b.length) && (decide (b.take a.length = a) && decide (b.getD a.length 0 = 47))
def posOf (p : List UInt8) : List Ent → Int
  | [] => -1
  | e :: l => if e.path = p then 0 else if posOf p l < 0 then -1 else posOf p l + 1
theorem posOf_none {p : List UInt8} : ∀ {l : List Ent}, (∀ e ∈ l, e.path ≠ p) → posOf p l = -1
  | [], _ => rfl
  | e :: l, h => by
    rw [posOf, if_neg (h e (by simp)), posOf_none (fun x hx => h x (by simp [hx])), if_pos (by decide)]
theorem posOf_some {p : List UInt8} : ∀ {l : List Ent} {k : Nat} (hk : k < l.length), l[k].path = p → (∀ j (hj : j < k), l[j].path ≠ p) → posOf p l = k
  | e :: l, 0, _, h, _ => by rw [posOf, if_pos (show e.path = p from h)]; rfl
  | e :: l, k + 1, hk, h, hn => by
    have ih := posOf_some (p := p) (l := l) (k := k) (by simpa using hk) (by simpa using h) (fun j hj => by simpa using hn (j + 1) (by omega))
    rw [posOf, if_neg (by simpa using hn 0 (by omega)), ih, if_neg (by omega)]
    omega
set_option maxHeartbeats 1000000 in
set_option maxRecDepth 100000 in
theorem ref_Find_c [Tabs Tryd.prog] (nl : Bool) (l : List Ent) (hl : l.length ≤ 1000000) (p : List UInt8) (hp : p.length ≤ 1000000) : Con Tryd.prog n_drayageref07_Find [.sl nl (some 10) (l.map entV), str p] (int (posOf p l)) := by
  refine Con.of' mix Tryd.func22 rfl Tryd.ntmps22 e_drayageref07_Find r_drayageref07_Find (by simp) (by simp only [AV.free, AV.free.freeL, free_ents, str, Bool.and_self]) rfl ?_
  unfold s_drayageref07_Find
  obtain ⟨Z, hZ⟩ : ∃ Z, Z = posOf p l := ⟨_, rfl⟩
  rw [← hZ]
  repeat (first | refine wA ?_ | refine wB ?_ | refine wC rfl ?_ | refine wD rfl ?_ | refine wE ?_ | refine wF (by omega) ?_ | ((first | refine wG ?_ | refine wH ?_ | refine wI ?_ | refine wJ ?_ | refine wK ?_ | refine wL ?_); simp (disch := omega) only [wP, wZ, undef, UInt8.reduceToNat, Nat.reduceOr, Nat.reduceAnd, Nat.reduceXor, Nat.reduceDiv, if_pos, if_neg, aStore, frz, AV.flat, ↓reduceIte, ne_eq, reduceCtorEq, Int.reduceToNat, Nat.reduceEqDiff, Nat.reduceAdd, Nat.reduceSub, Nat.reduceMul, Int.reduceAdd, Int.reduceMul, Int.reduceSub, Int.reduceLT, Int.reduceLE, Int.reduceEq, Int.reduceNe, Nat.reduceLeDiff, Nat.reduceLT, Int.reduceNeg, Nat.reducePow, Nat.reduceMod, ByteArray.size]))
  refine SWp.loop (α := Nat) (fun k => mk 20 0 [(0, .sl nl (some 10) (l.map entV)), (1, str p), (5, int k)] [])
    (fun k => k ≤ l.length ∧ ∀ j (hj : j < l.length), j < k → l[j].path ≠ p) (fun k => l.length - k) 0 ⟨Nat.zero_le _, fun j hj h => by omega⟩ (le_mk rfl (Nat.le_refl _) ?_ ?_) ?_
  iterate 2 (case _ => simp (disch := omega) only [wP, wZ, undef, UInt8.reduceToNat, Nat.reduceOr, Nat.reduceAnd, Nat.reduceXor, Nat.reduceDiv, if_pos, if_neg, aStore, frz, AV.flat, ↓reduceIte, ne_eq, reduceCtorEq, Int.reduceToNat, Nat.reduceEqDiff, Nat.reduceAdd, Nat.reduceSub, Nat.reduceMul, Int.reduceAdd, Int.reduceMul, Int.reduceSub, Int.reduceLT, Int.reduceLE, Int.reduceEq, Int.reduceNe, Nat.reduceLeDiff, Nat.reduceLT, Int.reduceNeg, Nat.reducePow, Nat.reduceMod, ByteArray.size])
  rintro k ⟨hk, hne⟩ -
  by_cases hk' : k < l.length
  case neg =>
    have d : decide ((k : Int) < (l.length : Int)) = false := decide_eq_false (by omega)
    have hz : Z = -1 := by
      rw [hZ, posOf_none]
      intro e he
      obtain ⟨j, hj, rfl⟩ := List.mem_iff_getElem.1 he
      exact hne j hj (by omega)
    subst hz
    repeat (first | refine wA ?_ | refine wB ?_ | refine wC rfl ?_ | refine wD rfl ?_ | refine wE ?_ | refine wF (by omega) ?_ | ((first | refine wG ?_ | refine wH ?_ | refine wI ?_ | refine wJ ?_ | refine wK ?_ | refine wL ?_); simp (disch := omega) only [wP, wZ, undef, UInt8.reduceToNat, Nat.reduceOr, Nat.reduceAnd, Nat.reduceXor, Nat.reduceDiv, if_pos, if_neg, aStore, frz, AV.flat, ↓reduceIte, ne_eq, reduceCtorEq, Int.reduceToNat, Nat.reduceEqDiff, Nat.reduceAdd, Nat.reduceSub, Nat.reduceMul, Int.reduceAdd, Int.reduceMul, Int.reduceSub, Int.reduceLT, Int.reduceLE, Int.reduceEq, Int.reduceNe, Nat.reduceLeDiff, Nat.reduceLT, Int.reduceNeg, Nat.reducePow, Nat.reduceMod, ByteArray.size, d, List.length_map]))
  have d : decide ((k : Int) < (l.length : Int)) = true := decide_eq_true (by omega)
  have hg := getD_ents hk'
  by_cases h1 : l[k].path = p
  · have d1 : decide (l[k].path = p) = true := decide_eq_true h1
    have hz : Z = k := by rw [hZ, posOf_some hk' h1 (fun j hj => hne j (by omega) hj)]
    subst hz
    repeat (first | refine wA ?_ | refine wB ?_ | refine wC rfl ?_ | refine wD rfl ?_ | refine wE ?_ | refine wF (by omega) ?_ | ((first | refine wG ?_ | refine wH ?_ | refine wI ?_ | refine wJ ?_ | refine wK ?_ | refine wL ?_); simp (disch := omega) only [wP, wZ, undef, UInt8.reduceToNat, Nat.reduceOr, Nat.reduceAnd, Nat.reduceXor, Nat.reduceDiv, if_pos, if_neg, aStore, frz, AV.flat, ↓reduceIte, ne_eq, reduceCtorEq, Int.reduceToNat, Nat.reduceEqDiff, Nat.reduceAdd, Nat.reduceSub, Nat.reduceMul, Int.reduceAdd, Int.reduceMul, Int.reduceSub, Int.reduceLT, Int.reduceLE, Int.reduceEq, Int.reduceNe, Nat.reduceLeDiff, Nat.reduceLT, Int.reduceNeg, Nat.reducePow, Nat.reduceMod, ByteArray.size, d, d1, List.length_map, hg, entV, entL]))
    done
  · have d1 : decide (l[k].path = p) = false := decide_eq_false h1
    repeat (first | refine wA ?_ | refine wB ?_ | refine wC rfl ?_ | refine wD rfl ?_ | refine wE ?_ | refine wF (by omega) ?_ | ((first | refine wG ?_ | refine wH ?_ | refine wI ?_ | refine wJ ?_ | refine wK ?_ | refine wL ?_); simp (disch := omega) only [wP, wZ, undef, UInt8.reduceToNat, Nat.reduceOr, Nat.reduceAnd, Nat.reduceXor, Nat.reduceDiv, if_pos, if_neg, aStore, frz, AV.flat, ↓reduceIte, ne_eq, reduceCtorEq, Int.reduceToNat, Nat.reduceEqDiff, Nat.reduceAdd, Nat.reduceSub, Nat.reduceMul, Int.reduceAdd, Int.reduceMul, Int.reduceSub, Int.reduceLT, Int.reduceLE, Int.reduceEq, Int.reduceNe, Nat.reduceLeDiff, Nat.reduceLT, Int.reduceNeg, Nat.reducePow, Nat.reduceMod, ByteArray.size, d, d1, List.length_map, hg, entV, entL]))
    refine At.of (k + 1) ⟨by omega, fun j hj h => ?_⟩ (by omega) rfl rfl (Nat.le_refl _) ?_ ?_
    · by_cases e5 : j = k
      · subst e5; exact h1
      · exact hne j hj (by omega)
    iterate 2 (case _ => simp (disch := omega) only [wP, wZ, undef, UInt8.reduceToNat, Nat.reduceOr, Nat.reduceAnd, Nat.reduceXor, Nat.reduceDiv, if_pos, if_neg, aStore, frz, AV.flat, ↓reduceIte, ne_eq, reduceCtorEq, Int.reduceToNat, Nat.reduceEqDiff, Nat.reduceAdd, Nat.reduceSub, Nat.reduceMul, Int.reduceAdd, Int.reduceMul, Int.reduceSub, Int.reduceLT, Int.reduceLE, Int.reduceEq, Int.reduceNe, Nat.reduceLeDiff, Nat.reduceLT, Int.reduceNeg, Nat.reducePow, Nat.reduceMod, ByteArray.size])
end Go.Proofs.YtbmmdkbinlnogaaDoor.Aw
namespace Go.Proofs.YtbmmdkbinlnogaaDoor.Aw
open Go
set_option linter.unusedSimpArgs false
set_option linter.unusedVariables false
theorem posOf_ge {p : List UInt8} : ∀ {l : List Ent}, -1 ≤ posOf p l
  | [] => by simp [posOf]
  | e :: l => by
    have := posOf_ge (p := p) (l := l)
    rw [posOf]
    split
    · omega
    · split <;> omega
def fileAt (p : List UInt8) (l : List Ent) : Option Ent := if posOf p l < 0 then none else l[(posOf p l).toNat]?
def fitsB (e x : Ent) : Bool := !((abv x.path e.path && !decide (x.kind = 2)) || (abv e.path x.path && !decide (e.kind = 2)))
def clash (l : List Ent) (e : Ent) : Int := if l.all (fitsB e) = true then 0 else 9
def badE (l : List Ent) (e : Ent) : Int := if chk e = 0 then if posOf e.path l < 0 then if e.kind = 4 then (match fileAt e.link l with | none => 15 | some f => if f.kind = 1 then if alikeB f e = true then clash l e else 1 else 15) else clash l e else 8 else chk e
end Go.Proofs.YtbmmdkbinlnogaaDoor.Aw
namespace Go.Proofs.YtbmmdkbinlnogaaDoor.Aw
open Go
set_option linter.unusedSimpArgs false
set_option linter.unusedVariables false
abbrev ltB := Op.bytesLess
theorem ltB_irrefl : ∀ a : List UInt8, ltB a a = false
  | [] => rfl
  | a :: x => by
    have h := ltB_irrefl x
    simp only [ltB, Op.bytesLess] at h ⊢
    simp [h, UInt8.lt_irrefl]
theorem ltB_cons {a b : UInt8} {x y : List UInt8} : ltB (a :: x) (b :: y) = true ↔ a < b ∨ a = b ∧ ltB x y = true := by
  simp [ltB, Op.bytesLess]
theorem ltB_trans : ∀ {a b c : List UInt8}, ltB a b = true → ltB b c = true → ltB a c = true
  | _, [], _, h, _ => by simp [ltB, Op.bytesLess] at h
  | _, _ :: _, [], _, h => by simp [ltB, Op.bytesLess] at h
  | [], _ :: _, _ :: _, _, _ => rfl
  | a :: x, b :: y, c :: z, h1, h2 => by
    rw [ltB_cons] at h1 h2 ⊢
    rcases h1 with h1 | ⟨rfl, h1⟩
    · rcases h2 with h2 | ⟨rfl, _⟩
      · exact .inl (UInt8.lt_trans h1 h2)
      · exact .inl h1
    · rcases h2 with h2 | ⟨rfl, h2⟩
      · exact .inl h2
      · exact .inr ⟨rfl, ltB_trans h1 h2⟩
theorem ltB_tri : ∀ {a b : List UInt8}, ltB a b = false → ltB b a = false → a = b
  | [], [], _, _ => rfl
  | [], _ :: _, h, _ => by simp [ltB, Op.bytesLess] at h
  | _ :: _, [], _, h => by simp [ltB, Op.bytesLess] at h
  | a :: x, b :: y, h1, h2 => by
    have h1' : ¬ (a < b ∨ a = b ∧ ltB x y = true) := fun h => by rw [ltB_cons.2 h] at h1; cases h1
    have h2' : ¬ (b < a ∨ b = a ∧ ltB y x = true) := fun h => by rw [ltB_cons.2 h] at h2; cases h2
    have e : a = b := UInt8.le_antisymm (UInt8.not_lt.1 fun h => h2' (.inl h)) (UInt8.not_lt.1 fun h => h1' (.inl h))
    subst e
    have e1 : ltB x y = false := by cases h : ltB x y; rfl; exact absurd (.inr ⟨rfl, h⟩) h1'
    have e2 : ltB y x = false := by cases h : ltB y x; rfl; exact absurd (.inr ⟨rfl, h⟩) h2'
    rw [ltB_tri e1 e2]
theorem ltB_asymm {a b : List UInt8} (h : ltB a b = true) : ltB b a = false := by
  cases h' : ltB b a
  · rfl
  · have := ltB_trans h h'
    rw [ltB_irrefl] at this
    cases this
theorem cmp_ltB : ∀ a b : List UInt8, decide (Lib.compareBytes a b < 0) = ltB a b
  | [], [] => rfl
  | [], _ :: _ => rfl
  | _ :: _, [] => rfl
  | a :: x, b :: y => by
    have ih := cmp_ltB x y
    rw [Lib.compareBytes]
    by_cases h1 : a < b
    · rw [if_pos h1, ltB_cons.2 (.inl h1)]; rfl
    · rw [if_neg h1]
      by_cases h2 : b < a
      · rw [if_pos h2]
        cases h : ltB (a :: x) (b :: y)
        · rfl
        · rw [ltB_cons] at h
          rcases h with h | ⟨rfl, _⟩
          · exact absurd h h1
          · exact absurd h2 (UInt8.lt_irrefl _)
      · rw [if_neg h2]
        have e : a = b := UInt8.le_antisymm (UInt8.not_lt.1 h2) (UInt8.not_lt.1 h1)
        subst e
        rw [ih]
        simp [ltB, Op.bytesLess, UInt8.lt_irrefl]
def insE (x : Ent) : List Ent → List Ent
  | [] => [x]
  | y :: r => if ltB y.path x.path then y :: insE x r else x :: y :: r
def sortE (l : List Ent) : List Ent := l.foldl (fun o x => insE x o) []
abbrev SrtE (l : List Ent) : Prop := l.Pairwise fun a b => ltB a.path b.path = true
theorem insE_perm (x : Ent) : ∀ l, (insE x l).Perm (x :: l)
  | [] => List.Perm.refl _
  | y :: r => by
    rw [insE]
    split
    · exact ((insE_perm x r).cons y).trans (List.Perm.swap x y r)
    · exact List.Perm.refl _
theorem foldE_perm : ∀ (l o : List Ent), (l.foldl (fun o x => insE x o) o).Perm (o ++ l)
  | [], o => by simp
  | x :: l, o => by
    rw [List.foldl_cons]
    refine (foldE_perm l (insE x o)).trans ?_
    refine ((insE_perm x o).append_right l).trans ?_
    exact (List.perm_middle (a := x) (l₁ := o) (l₂ := l)).symm
theorem sortE_perm (l : List Ent) : (sortE l).Perm l := by simpa [sortE] using foldE_perm l []
theorem insE_srt (x : Ent) : ∀ {l : List Ent}, SrtE l → (∀ e ∈ l, e.path ≠ x.path) → SrtE (insE x l)
  | [], _, _ => by simp [insE, SrtE]
  | y :: r, h, hn => by
    have h' := List.pairwise_cons.1 h
    rw [insE]
    split
    · rename_i hl
      refine List.pairwise_cons.2 ⟨fun e he => ?_, insE_srt x h'.2 (fun e he => hn e (by simp [he]))⟩
      have := (insE_perm x r).subset he
      rcases List.mem_cons.1 this with rfl | he
      · exact hl
      · exact h'.1 e he
    · rename_i hl
      have hxy : ltB x.path y.path = true := by
        cases hh : ltB x.path y.path
        · exact absurd (ltB_tri (by simpa using hl) hh) (hn y (by simp))
        · rfl
      refine List.pairwise_cons.2 ⟨fun e he => ?_, h⟩
      rcases List.mem_cons.1 he with rfl | he
      · exact hxy
      · exact ltB_trans hxy (h'.1 e he)
theorem foldE_srt : ∀ {l o : List Ent}, SrtE o → ((o ++ l).map (·.path)).Nodup → SrtE (l.foldl (fun o x => insE x o) o)
  | [], o, h, _ => h
  | x :: l, o, h, hn => by
    rw [List.foldl_cons]
    have hp : ((insE x o) ++ l).Perm (o ++ x :: l) := ((insE_perm x o).append_right l).trans (List.perm_middle (a := x) (l₁ := o) (l₂ := l)).symm
    refine foldE_srt (insE_srt x h fun e he => ?_) ((hp.map _).nodup_iff.2 hn)
    rw [List.map_append, List.nodup_append] at hn
    exact hn.2.2 e.path (List.mem_map.2 ⟨e, he, rfl⟩) x.path (by simp)
theorem sortE_srt {l : List Ent} (h : (l.map (·.path)).Nodup) : SrtE (sortE l) := foldE_srt (o := []) List.Pairwise.nil (by simpa using h)
theorem srtE_unique {a b : List Ent} (ha : SrtE a) (hb : SrtE b) (h : a.Perm b) : a = b := by
  refine List.Perm.eq_of_pairwise (le := fun a b => ltB a.path b.path = true) (fun x y _ _ h1 h2 => ?_) ha hb h
  rw [ltB_asymm h1] at h2
  cases h2
theorem srtE_sortE {l m : List Ent} (h : SrtE m) (hp : m.Perm l) (hn : (l.map (·.path)).Nodup) : m = sortE l :=
  srtE_unique h (sortE_srt hn) (hp.trans (sortE_perm l).symm)
theorem sortE_length {l : List Ent} : (sortE l).length = l.length := (sortE_perm l).length_eq
theorem mem_sortE {l : List Ent} {e : Ent} : e ∈ sortE l ↔ e ∈ l := (sortE_perm l).mem_iff
end Go.Proofs.YtbmmdkbinlnogaaDoor.Aw
namespace Go.Proofs.YtbmmdkbinlnogaaDoor.Aw
open Go
set_option linter.unusedSimpArgs false
set_option linter.unusedVariables false
def badAt (a : List Ent) : List Ent → Nat → Int × Int
  | [], _ => (0, 0)
  | e :: r, i => if badE a e = 0 then badAt (a ++ [e]) r (i + 1) else ((i : Int), badE a e)
def chkAll (l : List Ent) : Int × Int := if 4096 < l.length then (4096, 4) else badAt [] l 0
theorem badAt_step {l : List Ent} {k : Nat} (hk : k < l.length) : badAt (l.take k) (l.drop k) k = if badE (l.take k) l[k] = 0 then badAt (l.take (k + 1)) (l.drop (k + 1)) (k + 1) else ((k : Int), badE (l.take k) l[k]) := by
  rw [List.drop_eq_getElem_cons hk, badAt, List.take_add_one, List.getElem?_eq_getElem hk]
  rfl
end Go.Proofs.YtbmmdkbinlnogaaDoor.Aw
