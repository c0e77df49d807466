/- Parts of the proof of DeflateForms. -/
import Derived.Test.YtbmppmdklappiaaDoorQDeflateFormsAZ
import Derived.Test.YtbmppmdklappiaaDoorProg
import Derived.Test.YtbmppmdklappiaaDoorQDeflateFormsBA
namespace Go.Proofs.YtbmppmdklappiaaDoor.Aw
open Go
set_option maxRecDepth 100000
set_option linter.unusedSimpArgs false
abbrev n_bits_Len : Nat := 109
abbrev n_bits_Len32 : Nat := 111
abbrev n_bits_Len64 : Nat := 112
abbrev n_bits_Mul : Nat := 89
abbrev n_bits_Mul32 : Nat := 107
abbrev n_bits_Mul64 : Nat := 108
abbrev n_bytes_Clone : Nat := 30
abbrev n_cmp_Compareint : Nat := 118
abbrev n_cmp_isNaNint : Nat := 122
abbrev n_deflate_Deflate : Nat := 9
abbrev n_deflate_bestCode : Nat := 81
abbrev n_deflate_bestCodes : Nat := 50
abbrev n_deflate_bestTeller : Nat := 84
abbrev n_deflate_codeOf : Nat := 77
abbrev n_deflate_cut : Nat := 82
abbrev n_deflate_eachRun : Nat := 48
abbrev n_deflate_finder_add : Nat := 80
abbrev n_deflate_finder_alike : Nat := 103
abbrev n_deflate_finder_lastLike : Nat := 102
abbrev n_deflate_finder_longest : Nat := 79
abbrev n_deflate_finder_start : Nat := 104
abbrev n_deflate_fixedCodes : Nat := 46
abbrev n_deflate_newFinder : Nat := 78
abbrev n_deflate_packer_begin : Nat := 44
abbrev n_deflate_packer_dynamic : Nat := 26
abbrev n_deflate_packer_fixed : Nat := 24
abbrev n_deflate_packer_pieces : Nat := 45
abbrev n_deflate_packer_stored : Nat := 23
abbrev n_deflate_packer_storedBlock : Nat := 43
abbrev n_deflate_packer_symbol : Nat := 73
abbrev n_deflate_packer_tell : Nat := 51
abbrev n_deflate_piece_distance : Nat := 76
abbrev n_deflate_piece_isRun : Nat := 75
abbrev n_deflate_piece_literal : Nat := 74
abbrev n_deflate_piecesOf : Nat := 25
abbrev n_deflate_piecesOf_1 : Nat := 47
abbrev n_deflate_piecesOf_2 : Nat := 49
abbrev n_deflate_symbolOf : Nat := 100
abbrev n_deflate_tellAt : Nat := 106
abbrev n_deflate_tellsOf : Nat := 83
abbrev n_drayagelaw05_DeflateForms : Nat := 4
abbrev n_drayagelaw05_awake : Nat := 8
abbrev n_drayageref01_Be : Nat := 29
abbrev n_drayageref01_Turned : Nat := 28
abbrev n_drayageref05_Stored : Nat := 10
abbrev n_huff_Check : Nat := 85
abbrev n_huff_Codes : Nat := 101
abbrev n_huff_Lengths : Nat := 105
abbrev n_huff_NewWriter : Nat := 22
abbrev n_huff_Writer_Align : Nat := 70
abbrev n_huff_Writer_Bytes : Nat := 27
abbrev n_huff_Writer_Code : Nat := 99
abbrev n_huff_Writer_Put : Nat := 71
abbrev n_huff_Writer_Raw : Nat := 72
abbrev n_huff_Writer_bit : Nat := 98
abbrev n_huff_byCount : Nat := 114
abbrev n_huff_cheapest : Nat := 110
abbrev n_huff_firstRows : Nat := 86
abbrev n_huff_pairs : Nat := 116
abbrev n_huff_taken : Nat := 87
abbrev n_slices_Concathuff_batchhuff_batch : Nat := 115
abbrev n_slices_Concatintint : Nat := 58
abbrev n_slices_Growhuff_batchhuff_batch : Nat := 119
abbrev n_slices_Growintint : Nat := 88
abbrev n_slices_Repeatintint : Nat := 59
abbrev n_slices_SortStableFunchuff_batchhuff_batch : Nat := 113
abbrev n_slices_insertionSortCmpFunchuff_batch : Nat := 120
abbrev n_slices_rotateCmpFunchuff_batch : Nat := 123
abbrev n_slices_stableCmpFunchuff_batch : Nat := 117
abbrev n_slices_swapRangeCmpFunchuff_batch : Nat := 124
abbrev n_slices_symMergeCmpFunchuff_batch : Nat := 121
theorem mix : Tryd.prog.follows .mixedOrders = true := by kernel_rfl
def s_drayagelaw05_DeflateForms : SCode :=
 (.seq (.reg [⟨(some 2), .mv (.const (.bool false)), none⟩])
 (.seq (.seq (.reg [⟨(some 8), .call true n_drayagelaw05_awake [], none⟩,
 ⟨(some 9), .un .not (T 8), none⟩])
 (.cond (T 9)
 (.seq (.reg [⟨(some 2), .mv (.const (.bool false)), none⟩])
 .ret)
 .skip))
 (.seq (.seq (.reg [⟨(some 10), .mv (T 0), none⟩,
 ⟨(some 11), .len false (T 10), none⟩,
 ⟨(some 12), .bin .gtr (T 11) (C (140000)), none⟩])
 (.cond (T 12)
 (.seq (.reg [⟨(some 2), .mv (.const (.bool true)), none⟩])
 .ret)
 .skip))
 (.seq (.reg [⟨(some 14), .mv (T 0), none⟩,
 ⟨(some 15), .call true n_deflate_Deflate [(T 14), (C (0))], none⟩,
 ⟨(some 13), .mv (T 15), none⟩,
 ⟨(some 16), .ext (T 13) 0, none⟩,
 ⟨(some 17), .ext (T 13) 1, none⟩,
 ⟨(some 3), .mv (T 16), none⟩,
 ⟨(some 4), .mv (T 17), none⟩])
 (.seq (.seq (.reg [⟨(some 18), .mv (T 4), none⟩,
 ⟨(some 19), .bin .neq (T 18) (C (0)), none⟩,
 ⟨(some 20), .mv (T 19), none⟩,
 ⟨(some 21), .mv (T 3), (some (20, false))⟩,
 ⟨(some 22), .b2s (T 21), (some (20, false))⟩,
 ⟨(some 23), .mv (T 0), (some (20, false))⟩,
 ⟨(some 24), .call false n_drayageref05_Stored [(T 23)], (some (20, false))⟩,
 ⟨(some 25), .b2s (T 24), (some (20, false))⟩,
 ⟨(some 26), .bin .neq (T 22) (T 25), (some (20, false))⟩,
 ⟨(some 27), .pick (T 20) (.const (.bool true)) (T 26), none⟩])
 (.cond (T 27)
 (.seq (.reg [⟨(some 2), .mv (.const (.bool false)), none⟩])
 .ret)
 .skip))
 (.seq (.seq (.reg [⟨(some 28), .mv (T 0), none⟩,
 ⟨(some 29), .len false (T 28), none⟩,
 ⟨(some 30), .bin .gtr (T 29) (C (3000)), none⟩])
 (.cond (T 30)
 (.seq (.reg [⟨(some 2), .mv (.const (.bool true)), none⟩])
 .ret)
 .skip))
 (.seq (.reg [⟨(some 32), .mv (T 0), none⟩,
 ⟨(some 33), .call true n_deflate_Deflate [(T 32), (C (1))], none⟩,
 ⟨(some 31), .mv (T 33), none⟩,
 ⟨(some 34), .ext (T 31) 0, none⟩,
 ⟨(some 35), .ext (T 31) 1, none⟩,
 ⟨(some 5), .mv (T 34), none⟩,
 ⟨(some 4), .mv (T 35), none⟩])
 (.seq (.reg [⟨(some 37), .mv (T 0), none⟩,
 ⟨(some 38), .call true n_deflate_Deflate [(T 37), (C (2))], none⟩,
 ⟨(some 36), .mv (T 38), none⟩,
 ⟨(some 39), .ext (T 36) 0, none⟩,
 ⟨(some 40), .ext (T 36) 1, none⟩,
 ⟨(some 6), .mv (T 39), none⟩,
 ⟨(some 7), .mv (T 40), none⟩])
 (.seq (.reg [⟨(some 41), .mv (T 4), none⟩,
 ⟨(some 42), .bin .eql (T 41) (C (0)), none⟩,
 ⟨(some 43), .mv (T 42), none⟩,
 ⟨(some 44), .mv (T 7), (some (43, true))⟩,
 ⟨(some 45), .bin .eql (T 44) (C (0)), (some (43, true))⟩,
 ⟨(some 46), .pick (T 43) (T 45) (.const (.bool false)), none⟩,
 ⟨(some 47), .mv (T 46), none⟩,
 ⟨(some 48), .mv (T 5), (some (47, true))⟩,
 ⟨(some 49), .len false (T 48), (some (47, true))⟩,
 ⟨(some 50), .bin .gtr (T 49) (C (0)), (some (47, true))⟩,
 ⟨(some 51), .pick (T 47) (T 50) (.const (.bool false)), none⟩,
 ⟨(some 52), .mv (T 51), none⟩,
 ⟨(some 53), .mv (T 5), (some (52, true))⟩,
 ⟨(some 54), .iaddr none (T 53) (C (0)), (some (52, true))⟩,
 ⟨(some 55), .load none (T 54), (some (52, true))⟩,
 ⟨(some 56), .bin .and (T 55) (.const (.int .u8 (7))), (some (52, true))⟩,
 ⟨(some 57), .bin .eql (T 56) (.const (.int .u8 (3))), (some (52, true))⟩,
 ⟨(some 58), .pick (T 52) (T 57) (.const (.bool false)), none⟩,
 ⟨(some 59), .mv (T 58), none⟩,
 ⟨(some 60), .mv (T 6), (some (59, true))⟩,
 ⟨(some 61), .len false (T 60), (some (59, true))⟩,
 ⟨(some 62), .bin .gtr (T 61) (C (0)), (some (59, true))⟩,
 ⟨(some 63), .pick (T 59) (T 62) (.const (.bool false)), none⟩,
 ⟨(some 64), .mv (T 63), none⟩,
 ⟨(some 65), .mv (T 6), (some (64, true))⟩,
 ⟨(some 66), .iaddr none (T 65) (C (0)), (some (64, true))⟩,
 ⟨(some 67), .load none (T 66), (some (64, true))⟩,
 ⟨(some 68), .bin .and (T 67) (.const (.int .u8 (7))), (some (64, true))⟩,
 ⟨(some 69), .bin .eql (T 68) (.const (.int .u8 (5))), (some (64, true))⟩,
 ⟨(some 70), .pick (T 64) (T 69) (.const (.bool false)), none⟩,
 ⟨(some 2), .mv (T 70), none⟩])
 .ret)))))))))
theorem e_drayagelaw05_DeflateForms : slimC Tryd.prog 71 (Tryd.f4.body.getD .skip) = s_drayagelaw05_DeflateForms := by kernel_rfl
theorem r_drayagelaw05_DeflateForms : slimRes Tryd.prog Tryd.f4 = some [.tmp 2] := by kernel_rfl
def s_drayagelaw05_awake : SCode :=
 (.seq (.reg [⟨(some 0), .mv (.const (.bool false)), none⟩])
 (.seq (.reg [⟨(some 6), .bsl none [(.const (.int .u8 (97)))], none⟩,
 ⟨(some 7), .strz (T 6), none⟩,
 ⟨(some 8), .call true n_deflate_Deflate [(T 7), (C (0))], none⟩,
 ⟨(some 5), .mv (T 8), none⟩,
 ⟨(some 9), .ext (T 5) 0, none⟩,
 ⟨(some 10), .ext (T 5) 1, none⟩,
 ⟨(some 1), .mv (T 9), none⟩,
 ⟨(some 2), .mv (T 10), none⟩])
 (.seq (.reg [⟨(some 12), .call true n_deflate_Deflate [(.const (.slice none 0 0)), (C (1))], none⟩,
 ⟨(some 11), .mv (T 12), none⟩,
 ⟨(some 13), .ext (T 11) 0, none⟩,
 ⟨(some 14), .ext (T 11) 1, none⟩,
 ⟨(some 3), .mv (T 13), none⟩,
 ⟨(some 4), .mv (T 14), none⟩])
 (.seq (.reg [⟨(some 15), .mv (T 1), none⟩,
 ⟨(some 16), .b2s (T 15), none⟩,
 ⟨(some 17), .bin .eql (T 16) (.const (.string ⟨#[1, 1, 0, 254, 255, 97]⟩)), none⟩,
 ⟨(some 18), .mv (T 17), none⟩,
 ⟨(some 19), .mv (T 2), (some (18, true))⟩,
 ⟨(some 20), .bin .eql (T 19) (C (0)), (some (18, true))⟩,
 ⟨(some 21), .pick (T 18) (T 20) (.const (.bool false)), none⟩,
 ⟨(some 22), .mv (T 21), none⟩,
 ⟨(some 23), .mv (T 3), (some (22, true))⟩,
 ⟨(some 24), .b2s (T 23), (some (22, true))⟩,
 ⟨(some 25), .bin .eql (T 24) (.const (.string ⟨#[3, 0]⟩)), (some (22, true))⟩,
 ⟨(some 26), .pick (T 22) (T 25) (.const (.bool false)), none⟩,
 ⟨(some 27), .mv (T 26), none⟩,
 ⟨(some 28), .mv (T 4), (some (27, true))⟩,
 ⟨(some 29), .bin .eql (T 28) (C (0)), (some (27, true))⟩,
 ⟨(some 30), .pick (T 27) (T 29) (.const (.bool false)), none⟩,
 ⟨(some 0), .mv (T 30), none⟩])
 .ret))))
theorem e_drayagelaw05_awake : slimC Tryd.prog 31 (Tryd.f8.body.getD .skip) = s_drayagelaw05_awake := by kernel_rfl
theorem r_drayagelaw05_awake : slimRes Tryd.prog Tryd.f8 = some [.tmp 0] := by kernel_rfl
def s_deflate_Deflate : SCode :=
 (.seq (.reg [⟨(some 4), .mv (.const (.slice none 0 0)), none⟩,
 ⟨(some 5), .mv (C (0)), none⟩])
 (.seq (.seq (.reg [⟨(some 7), .mv (T 1), none⟩,
 ⟨(some 8), .bin .lss (T 7) (C (0)), none⟩,
 ⟨(some 9), .mv (T 8), none⟩,
 ⟨(some 10), .mv (T 1), (some (9, false))⟩,
 ⟨(some 11), .bin .gtr (T 10) (C (2)), (some (9, false))⟩,
 ⟨(some 12), .pick (T 9) (.const (.bool true)) (T 11), none⟩])
 (.cond (T 12)
 (.seq (.reg [⟨(some 4), .mv (.const (.slice none 0 0)), none⟩,
 ⟨(some 5), .mv (C (1)), none⟩])
 .ret)
 .skip))
 (.seq (.seq (.reg [⟨(some 13), .mv (T 0), none⟩,
 ⟨(some 14), .len false (T 13), none⟩,
 ⟨(some 15), .bin .gtr (T 14) (C (16777216)), none⟩])
 (.cond (T 15)
 (.seq (.reg [⟨(some 4), .mv (.const (.slice none 0 0)), none⟩,
 ⟨(some 5), .mv (C (4)), none⟩])
 .ret)
 .skip))
 (.seq (.reg [⟨(some 16), .call true n_huff_NewWriter [], none⟩,
 ⟨(some 17), .build [(.pointer none)] [(0, 1, (T 16))], none⟩,
 ⟨(some 6), .alloc [(.pointer none)], none⟩,
 ⟨none, .store (some 1) (T 6) (T 17), none⟩])
 (.seq (.seq (.reg [⟨(some 18), .mv (T 1), none⟩])
 (.block 0
 (.seq (.reg [⟨(some 20), .bin .eql (T 18) (C (0)), none⟩,
 ⟨(some 19), .mv (T 20), none⟩])
 (.cond (T 19)
 (.reg [⟨(some 21), .load (some 1) (T 6), none⟩,
 ⟨(some 22), .mv (T 0), none⟩,
 ⟨(some 23), .call true n_deflate_packer_stored [(T 21), (T 22)], none⟩])
 (.seq (.reg [⟨(some 25), .bin .eql (T 18) (C (1)), none⟩,
 ⟨(some 24), .mv (T 25), none⟩])
 (.cond (T 24)
 (.reg3 [⟨(some 26), .load (some 1) (T 6), none⟩,
 ⟨(some 27), .mv (T 0), none⟩,
 ⟨(some 28), .call true n_deflate_piecesOf [(T 27)], none⟩]
 [((some 1), (T 6), 26)]
 [⟨(some 29), .call true n_deflate_packer_fixed [(T 26), (T 28)], none⟩])
 (.seq (.reg [⟨(some 31), .bin .eql (T 18) (C (2)), none⟩,
 ⟨(some 30), .mv (T 31), none⟩])
 (.cond (T 30)
 (.reg3 [⟨(some 32), .load (some 1) (T 6), none⟩,
 ⟨(some 33), .mv (T 0), none⟩,
 ⟨(some 34), .call true n_deflate_piecesOf [(T 33)], none⟩]
 [((some 1), (T 6), 32)]
 [⟨(some 35), .call true n_deflate_packer_dynamic [(T 32), (T 34)], none⟩])
 .skip))))))))
 (.seq (.reg [⟨(some 36), .faddr 0 (T 6), none⟩,
 ⟨(some 37), .load none (T 36), none⟩,
 ⟨(some 38), .call true n_huff_Writer_Bytes [(T 37)], none⟩,
 ⟨(some 4), .mv (T 38), none⟩,
 ⟨(some 5), .mv (C (0)), none⟩])
 .ret))))))
theorem e_deflate_Deflate : slimC Tryd.prog 39 (Tryd.f9.body.getD .skip) = s_deflate_Deflate := by kernel_rfl
theorem r_deflate_Deflate : slimRes Tryd.prog Tryd.f9 = some [.tmp 4, .tmp 5] := by kernel_rfl
def s_drayageref05_Stored : SCode :=
 (.seq (.reg [⟨(some 2), .mv (.const (.slice none 0 0)), none⟩])
 (.seq (.reg [⟨(some 3), .mv (.const (.slice none 0 0)), none⟩])
 (.block 0
 (.loop
 (.block 1
 (.seq (.reg [⟨(some 6), .mv (T 0), none⟩,
 ⟨(some 7), .len false (T 6), none⟩,
 ⟨(some 4), .mv (T 7), none⟩])
 (.seq (.reg [⟨(some 5), .mv (.const (.int .u8 (1))), none⟩])
 (.seq (.seq (.reg [⟨(some 8), .mv (T 4), none⟩,
 ⟨(some 9), .bin .gtr (T 8) (C (65535)), none⟩])
 (.cond (T 9)
 (.seq (.reg [⟨(some 4), .mv (C (65535)), none⟩])
 (.reg [⟨(some 5), .mv (.const (.int .u8 (0))), none⟩]))
 .skip))
 (.seq (.reg [⟨(some 10), .mv (T 3), none⟩,
 ⟨(some 11), .mv (T 5), none⟩,
 ⟨(some 12), .bslice none [(T 11)], none⟩,
 ⟨(some 13), .app none 1 (T 10) (T 12), none⟩,
 ⟨(some 3), .mv (T 13), none⟩])
 (.seq (.reg [⟨(some 14), .mv (T 3), none⟩,
 ⟨(some 15), .mv (T 4), none⟩,
 ⟨(some 16), .ci .u64 (T 15), none⟩,
 ⟨(some 17), .call true n_drayageref01_Be [(T 16), (C (2))], none⟩,
 ⟨(some 18), .call true n_drayageref01_Turned [(T 17)], none⟩,
 ⟨(some 19), .app none 1 (T 14) (T 18), none⟩,
 ⟨(some 3), .mv (T 19), none⟩])
 (.seq (.reg [⟨(some 20), .mv (T 3), none⟩,
 ⟨(some 21), .mv (T 4), none⟩,
 ⟨(some 22), .bin .sub (C (65535)) (T 21), none⟩,
 ⟨(some 23), .ci .u64 (T 22), none⟩,
 ⟨(some 24), .call true n_drayageref01_Be [(T 23), (C (2))], none⟩,
 ⟨(some 25), .call true n_drayageref01_Turned [(T 24)], none⟩,
 ⟨(some 26), .app none 1 (T 20) (T 25), none⟩,
 ⟨(some 3), .mv (T 26), none⟩])
 (.seq (.reg [⟨(some 27), .mv (T 3), none⟩,
 ⟨(some 28), .mv (T 0), none⟩,
 ⟨(some 29), .mv (T 4), none⟩,
 ⟨(some 30), .sl none (T 28) none (some (T 29)), none⟩,
 ⟨(some 31), .app none 1 (T 27) (T 30), none⟩,
 ⟨(some 3), .mv (T 31), none⟩])
 (.seq (.reg [⟨(some 32), .mv (T 0), none⟩,
 ⟨(some 33), .mv (T 4), none⟩,
 ⟨(some 34), .sl none (T 32) (some (T 33)) none, none⟩,
 ⟨(some 0), .mv (T 34), none⟩])
 (.seq (.reg [⟨(some 35), .mv (T 5), none⟩,
 ⟨(some 36), .bin .eql (T 35) (.const (.int .u8 (1))), none⟩])
 (.cond (T 36)
 (.seq (.reg [⟨(some 37), .mv (T 3), none⟩,
 ⟨(some 2), .mv (T 37), none⟩])
 .ret)
 .skip)))))))))))))))
theorem e_drayageref05_Stored : slimC Tryd.prog 38 (Tryd.f10.body.getD .skip) = s_drayageref05_Stored := by kernel_rfl
theorem r_drayageref05_Stored : slimRes Tryd.prog Tryd.f10 = some [.tmp 2] := by kernel_rfl
def s_huff_NewWriter : SCode :=
 (.seq (.reg [⟨(some 0), .mv (.const (.pointer none)), none⟩])
 (.seq (.reg [⟨(some 1), .build [(.slice none 0 0), (.int .i64 (0))] [], none⟩,
 ⟨(some 2), .box (T 1), none⟩,
 ⟨(some 0), .mv (T 2), none⟩])
 .ret))
theorem e_huff_NewWriter : slimC Tryd.prog 3 (Tryd.f22.body.getD .skip) = s_huff_NewWriter := by kernel_rfl
theorem r_huff_NewWriter : slimRes Tryd.prog Tryd.f22 = some [.tmp 0] := by kernel_rfl
def s_deflate_packer_stored : SCode :=
 (.seq (.reg [⟨(some 2), .box (T 0), none⟩])
 (.seq (.block 0
 (.loop
 (.seq (.seq (.reg [⟨(some 4), .mv (T 1), none⟩,
 ⟨(some 5), .len false (T 4), none⟩,
 ⟨(some 6), .bin .gtr (T 5) (C (65535)), none⟩])
 (.cond (T 6)
 .skip
 (.exit 0)))
 (.block 1
 (.seq (.reg [⟨(some 7), .load (some 1) (T 2), none⟩,
 ⟨(some 8), .mv (T 1), none⟩,
 ⟨(some 9), .sl none (T 8) none (some (C (65535))), none⟩,
 ⟨(some 10), .call true n_deflate_packer_storedBlock [(T 7), (C (0)), (T 9)], none⟩])
 (.reg [⟨(some 11), .mv (T 1), none⟩,
 ⟨(some 12), .sl none (T 11) (some (C (65535))) none, none⟩,
 ⟨(some 1), .mv (T 12), none⟩]))))))
 (.reg [⟨(some 13), .load (some 1) (T 2), none⟩,
 ⟨(some 14), .mv (T 1), none⟩,
 ⟨(some 15), .call true n_deflate_packer_storedBlock [(T 13), (C (1)), (T 14)], none⟩])))
theorem e_deflate_packer_stored : slimC Tryd.prog 16 (Tryd.f23.body.getD .skip) = s_deflate_packer_stored := by kernel_rfl
theorem r_deflate_packer_stored : slimRes Tryd.prog Tryd.f23 = some [] := by kernel_rfl
def s_deflate_packer_fixed : SCode :=
 (.seq (.reg [⟨(some 2), .box (T 0), none⟩])
 (.seq (.reg [⟨(some 4), .load (some 1) (T 2), none⟩,
 ⟨(some 5), .call true n_deflate_packer_begin [(T 4), (C (1)), (C (1))], none⟩])
 (.reg3 [⟨(some 6), .load (some 1) (T 2), none⟩,
 ⟨(some 7), .mv (T 1), none⟩,
 ⟨(some 8), .call true n_deflate_fixedCodes [], none⟩]
 [((some 1), (T 2), 6)]
 [⟨(some 9), .call true n_deflate_packer_pieces [(T 6), (T 7), (T 8)], none⟩])))
theorem e_deflate_packer_fixed : slimC Tryd.prog 10 (Tryd.f24.body.getD .skip) = s_deflate_packer_fixed := by kernel_rfl
theorem r_deflate_packer_fixed : slimRes Tryd.prog Tryd.f24 = some [] := by kernel_rfl
def s_deflate_piecesOf : SCode :=
 (.seq (.reg [⟨(some 1), .box (T 0), none⟩,
 ⟨(some 2), .mv (.const (.slice none 0 0)), none⟩])
 (.seq (.reg [⟨(some 3), .alloc [(.slice none 0 0)], none⟩])
 (.seq (.reg [⟨(some 4), .alloc [(.int .i64 (0))], none⟩,
 ⟨none, .store none (T 4) (C (0)), none⟩])
 (.seq (.reg [⟨(some 6), .mkf n_deflate_piecesOf_1 [(T 1), (T 4), (T 3)], none⟩,
 ⟨(some 5), .alloc [.nilFunc], none⟩,
 ⟨none, .store none (T 5) (T 6), none⟩])
 (.seq (.reg [⟨(some 7), .load none (T 1), none⟩,
 ⟨(some 8), .mkf n_deflate_piecesOf_2 [(T 5), (T 3), (T 4)], none⟩,
 ⟨(some 9), .call true n_deflate_eachRun [(T 7), (T 8)], none⟩])
 (.seq (.reg [⟨(some 10), .load none (T 5), none⟩,
 ⟨(some 11), .load none (T 1), none⟩,
 ⟨(some 12), .len false (T 11), none⟩,
 ⟨(some 13), .callv true (T 10) [(T 12)], none⟩])
 (.seq (.reg [⟨(some 14), .load none (T 3), none⟩,
 ⟨(some 2), .mv (T 14), none⟩])
 .ret)))))))
theorem e_deflate_piecesOf : slimC Tryd.prog 15 (Tryd.f25.body.getD .skip) = s_deflate_piecesOf := by kernel_rfl
theorem r_deflate_piecesOf : slimRes Tryd.prog Tryd.f25 = some [.tmp 2] := by kernel_rfl
def s_deflate_packer_dynamic : SCode :=
 (.seq (.reg [⟨(some 2), .box (T 0), none⟩])
 (.seq (.reg [⟨(some 5), .mv (T 1), none⟩,
 ⟨(some 6), .call true n_deflate_bestCodes [(T 5)], none⟩,
 ⟨(some 4), .alloc [(.slice none 0 0), (.slice none 0 0), (.slice none 0 0), (.slice none 0 0)], none⟩,
 ⟨none, .store (some 4) (T 4) (T 6), none⟩])
 (.seq (.reg [⟨(some 7), .load (some 1) (T 2), none⟩,
 ⟨(some 8), .call true n_deflate_packer_begin [(T 7), (C (1)), (C (2))], none⟩])
 (.seq (.reg [⟨(some 9), .load (some 1) (T 2), none⟩,
 ⟨(some 10), .load (some 4) (T 4), none⟩,
 ⟨(some 11), .call true n_deflate_packer_tell [(T 9), (T 10)], none⟩])
 (.reg [⟨(some 12), .load (some 1) (T 2), none⟩,
 ⟨(some 13), .mv (T 1), none⟩,
 ⟨(some 14), .load (some 4) (T 4), none⟩,
 ⟨(some 15), .call true n_deflate_packer_pieces [(T 12), (T 13), (T 14)], none⟩])))))
theorem e_deflate_packer_dynamic : slimC Tryd.prog 16 (Tryd.f26.body.getD .skip) = s_deflate_packer_dynamic := by kernel_rfl
theorem r_deflate_packer_dynamic : slimRes Tryd.prog Tryd.f26 = some [] := by kernel_rfl
def s_huff_Writer_Bytes : SCode :=
 (.seq (.reg [⟨(some 2), .mv (.const (.slice none 0 0)), none⟩])
 (.seq (.reg [⟨(some 3), .mv (T 0), none⟩,
 ⟨(some 4), .nilc (T 3), none⟩,
 ⟨(some 5), .faddr 0 (T 4), none⟩,
 ⟨(some 6), .load none (T 5), none⟩,
 ⟨(some 7), .call true n_bytes_Clone [(T 6)], none⟩,
 ⟨(some 2), .mv (T 7), none⟩])
 .ret))
theorem e_huff_Writer_Bytes : slimC Tryd.prog 8 (Tryd.f27.body.getD .skip) = s_huff_Writer_Bytes := by kernel_rfl
theorem r_huff_Writer_Bytes : slimRes Tryd.prog Tryd.f27 = some [.tmp 2] := by kernel_rfl
def s_drayageref01_Turned : SCode :=
 (.seq (.reg [⟨(some 2), .mv (.const (.slice none 0 0)), none⟩])
 (.seq (.reg [⟨(some 3), .mv (.const (.slice none 0 0)), none⟩])
 (.seq (.seq (.reg [⟨(some 5), .mv (T 0), none⟩,
 ⟨(some 6), .len false (T 5), none⟩,
 ⟨(some 7), .bin .sub (T 6) (C (1)), none⟩,
 ⟨(some 4), .mv (T 7), none⟩])
 (.block 0
 (.loop
 (.seq (.seq (.reg [⟨(some 8), .mv (T 4), none⟩,
 ⟨(some 9), .bin .geq (T 8) (C (0)), none⟩])
 (.cond (T 9)
 .skip
 (.exit 0)))
 (.seq (.block 1
 (.reg [⟨(some 12), .mv (T 3), none⟩,
 ⟨(some 13), .mv (T 0), none⟩,
 ⟨(some 14), .mv (T 4), none⟩,
 ⟨(some 15), .iaddr none (T 13) (T 14), none⟩,
 ⟨(some 16), .load none (T 15), none⟩,
 ⟨(some 17), .bslice none [(T 16)], none⟩,
 ⟨(some 18), .app none 1 (T 12) (T 17), none⟩,
 ⟨(some 3), .mv (T 18), none⟩]))
 (.reg [⟨(some 10), .mv (T 4), none⟩,
 ⟨(some 11), .bin .sub (T 10) (C (1)), none⟩,
 ⟨(some 4), .mv (T 11), none⟩]))))))
 (.seq (.reg [⟨(some 19), .mv (T 3), none⟩,
 ⟨(some 2), .mv (T 19), none⟩])
 .ret))))
theorem e_drayageref01_Turned : slimC Tryd.prog 20 (Tryd.f28.body.getD .skip) = s_drayageref01_Turned := by kernel_rfl
theorem r_drayageref01_Turned : slimRes Tryd.prog Tryd.f28 = some [.tmp 2] := by kernel_rfl
def s_drayageref01_Be : SCode :=
 (.seq (.reg [⟨(some 4), .mv (.const (.slice none 0 0)), none⟩])
 (.seq (.seq (.reg [⟨(some 7), .mv (T 1), none⟩,
 ⟨(some 8), .bin .lss (T 7) (C (1)), none⟩,
 ⟨(some 9), .mv (T 8), none⟩,
 ⟨(some 10), .mv (T 1), (some (9, false))⟩,
 ⟨(some 11), .bin .gtr (T 10) (C (8)), (some (9, false))⟩,
 ⟨(some 12), .pick (T 9) (.const (.bool true)) (T 11), none⟩])
 (.cond (T 12)
 (.seq (.reg [⟨(some 4), .mv (.const (.slice none 0 0)), none⟩])
 .ret)
 .skip))
 (.seq (.reg [⟨(some 5), .mv (.const (.slice none 0 0)), none⟩])
 (.seq (.seq (.reg [⟨(some 6), .mv (C (0)), none⟩])
 (.block 0
 (.loop
 (.seq (.seq (.reg [⟨(some 13), .mv (T 6), none⟩,
 ⟨(some 14), .mv (T 1), none⟩,
 ⟨(some 15), .bin .lss (T 13) (T 14), none⟩])
 (.cond (T 15)
 .skip
 (.exit 0)))
 (.seq (.block 1
 (.seq (.reg [⟨(some 18), .mv (T 0), none⟩,
 ⟨(some 19), .bin .rem (T 18) (.const (.int .u64 (256))), none⟩,
 ⟨(some 20), .ci .u8 (T 19), none⟩,
 ⟨(some 21), .bsl none [(T 20)], none⟩,
 ⟨(some 22), .mv (T 5), none⟩,
 ⟨(some 23), .app none 1 (T 21) (T 22), none⟩,
 ⟨(some 5), .mv (T 23), none⟩])
 (.reg [⟨(some 24), .mv (T 0), none⟩,
 ⟨(some 25), .bin .quo (T 24) (.const (.int .u64 (256))), none⟩,
 ⟨(some 0), .mv (T 25), none⟩])))
 (.reg [⟨(some 16), .mv (T 6), none⟩,
 ⟨(some 17), .bin .add (T 16) (C (1)), none⟩,
 ⟨(some 6), .mv (T 17), none⟩]))))))
 (.seq (.reg [⟨(some 26), .mv (T 5), none⟩,
 ⟨(some 4), .mv (T 26), none⟩])
 .ret)))))
theorem e_drayageref01_Be : slimC Tryd.prog 27 (Tryd.f29.body.getD .skip) = s_drayageref01_Be := by kernel_rfl
theorem r_drayageref01_Be : slimRes Tryd.prog Tryd.f29 = some [.tmp 4] := by kernel_rfl
def s_deflate_packer_storedBlock : SCode :=
 (.seq (.reg [⟨(some 3), .box (T 0), none⟩])
 (.seq (.reg [⟨(some 6), .load (some 1) (T 3), none⟩,
 ⟨(some 7), .mv (T 1), none⟩,
 ⟨(some 8), .call true n_deflate_packer_begin [(T 6), (T 7), (C (0))], none⟩])
 (.seq (.reg [⟨(some 9), .faddr 0 (T 3), none⟩,
 ⟨(some 10), .load none (T 9), none⟩,
 ⟨(some 11), .call true n_huff_Writer_Align [(T 10)], none⟩])
 (.seq (.reg [⟨(some 12), .faddr 0 (T 3), none⟩,
 ⟨(some 13), .load none (T 12), none⟩,
 ⟨(some 14), .mv (T 2), none⟩,
 ⟨(some 15), .len false (T 14), none⟩,
 ⟨(some 16), .call true n_huff_Writer_Put [(T 13), (T 15), (C (16))], none⟩])
 (.seq (.reg [⟨(some 17), .faddr 0 (T 3), none⟩,
 ⟨(some 18), .load none (T 17), none⟩,
 ⟨(some 19), .mv (T 2), none⟩,
 ⟨(some 20), .len false (T 19), none⟩,
 ⟨(some 21), .bin .sub (C (65535)) (T 20), none⟩,
 ⟨(some 22), .call true n_huff_Writer_Put [(T 18), (T 21), (C (16))], none⟩])
 (.reg [⟨(some 23), .faddr 0 (T 3), none⟩,
 ⟨(some 24), .load none (T 23), none⟩,
 ⟨(some 25), .mv (T 2), none⟩,
 ⟨(some 26), .call true n_huff_Writer_Raw [(T 24), (T 25)], none⟩]))))))
theorem e_deflate_packer_storedBlock : slimC Tryd.prog 27 (Tryd.f43.body.getD .skip) = s_deflate_packer_storedBlock := by kernel_rfl
theorem r_deflate_packer_storedBlock : slimRes Tryd.prog Tryd.f43 = some [] := by kernel_rfl
def s_deflate_packer_begin : SCode :=
 (.seq (.reg [⟨(some 3), .box (T 0), none⟩])
 (.seq (.reg [⟨(some 6), .faddr 0 (T 3), none⟩,
 ⟨(some 7), .load none (T 6), none⟩,
 ⟨(some 8), .mv (T 1), none⟩,
 ⟨(some 9), .call true n_huff_Writer_Put [(T 7), (T 8), (C (1))], none⟩])
 (.reg [⟨(some 10), .faddr 0 (T 3), none⟩,
 ⟨(some 11), .load none (T 10), none⟩,
 ⟨(some 12), .mv (T 2), none⟩,
 ⟨(some 13), .call true n_huff_Writer_Put [(T 11), (T 12), (C (2))], none⟩])))
theorem e_deflate_packer_begin : slimC Tryd.prog 14 (Tryd.f44.body.getD .skip) = s_deflate_packer_begin := by kernel_rfl
theorem r_deflate_packer_begin : slimRes Tryd.prog Tryd.f44 = some [] := by kernel_rfl
def s_deflate_packer_pieces : SCode :=
 (.seq (.reg [⟨(some 3), .box (T 0), none⟩,
 ⟨(some 5), .box (T 2), none⟩])
 (.seq (.seq (.reg [⟨(some 8), .mv (T 1), none⟩,
 ⟨(some 9), .len false (T 8), none⟩,
 ⟨(some 10), .mv (C (0)), none⟩])
 (.block 0
 (.loop
 (.seq (.reg [⟨(some 11), .bin .lss (T 10) (T 9), none⟩])
 (.seq (.cond (T 11)
 .skip
 (.exit 0))
 (.seq (.block 1
 (.seq (.reg [⟨(some 12), .iaddr (some 2) (T 8) (T 10), none⟩,
 ⟨(some 13), .load (some 2) (T 12), none⟩,
 ⟨(some 7), .alloc [(.int .u16 (0)), (.int .u16 (0))], none⟩,
 ⟨none, .store (some 2) (T 7) (T 13), none⟩])
 (.seq (.reg3 [⟨(some 14), .load (some 1) (T 3), none⟩,
 ⟨(some 15), .faddr 0 (T 5), none⟩,
 ⟨(some 16), .load (some 2) (T 15), none⟩,
 ⟨(some 17), .load (some 2) (T 7), none⟩,
 ⟨(some 18), .call true n_deflate_piece_literal [(T 17)], none⟩]
 [((some 1), (T 3), 14), ((some 2), (T 15), 16)]
 [⟨(some 19), .call true n_deflate_packer_symbol [(T 14), (T 16), (T 18)], none⟩])
 (.seq (.reg [⟨(some 20), .load (some 2) (T 7), none⟩,
 ⟨(some 21), .call true n_deflate_piece_isRun [(T 20)], none⟩])
 (.cond (T 21)
 (.reg3 [⟨(some 22), .load (some 1) (T 3), none⟩,
 ⟨(some 23), .faddr 2 (T 5), none⟩,
 ⟨(some 24), .load (some 2) (T 23), none⟩,
 ⟨(some 25), .load (some 2) (T 7), none⟩,
 ⟨(some 26), .call true n_deflate_piece_distance [(T 25)], none⟩]
 [((some 1), (T 3), 22), ((some 2), (T 23), 24)]
 [⟨(some 27), .call true n_deflate_packer_symbol [(T 22), (T 24), (T 26)], none⟩])
 .skip)))))
 (.reg [⟨(some 28), .bin .add (T 10) (C (1)), none⟩,
 ⟨(some 10), .mv (T 28), none⟩])))))))
 (.reg [⟨(some 29), .load (some 1) (T 3), none⟩,
 ⟨(some 30), .faddr 0 (T 5), none⟩,
 ⟨(some 31), .load (some 2) (T 30), none⟩,
 ⟨(some 32), .build [(.int .i64 (0)), (.int .i64 (0)), (.int .i64 (0))] [(0, 1, (C (256)))], none⟩,
 ⟨(some 33), .call true n_deflate_packer_symbol [(T 29), (T 31), (T 32)], none⟩])))
theorem e_deflate_packer_pieces : slimC Tryd.prog 34 (Tryd.f45.body.getD .skip) = s_deflate_packer_pieces := by kernel_rfl
theorem r_deflate_packer_pieces : slimRes Tryd.prog Tryd.f45 = some [] := by kernel_rfl
def s_deflate_fixedCodes : SCode :=
 (.seq (.reg [⟨(some 0), .alloc [(.slice none 0 0), (.slice none 0 0), (.slice none 0 0), (.slice none 0 0)], none⟩])
 (.seq (.reg [⟨(some 1), .bsl none [(C (8))], none⟩,
 ⟨(some 2), .call true n_slices_Repeatintint [(T 1), (C (144))], none⟩,
 ⟨(some 3), .bsl none [(C (9))], none⟩,
 ⟨(some 4), .call true n_slices_Repeatintint [(T 3), (C (112))], none⟩,
 ⟨(some 5), .bsl none [(C (7))], none⟩,
 ⟨(some 6), .call true n_slices_Repeatintint [(T 5), (C (24))], none⟩,
 ⟨(some 7), .bsl none [(C (8))], none⟩,
 ⟨(some 8), .call true n_slices_Repeatintint [(T 7), (C (8))], none⟩,
 ⟨(some 9), .bslice none [(T 2), (T 4), (T 6), (T 8)], none⟩,
 ⟨(some 10), .call true n_slices_Concatintint [(T 9)], none⟩,
 ⟨(some 11), .call true n_deflate_codeOf [(T 10)], none⟩,
 ⟨(some 12), .bsl none [(C (5))], none⟩,
 ⟨(some 13), .call true n_slices_Repeatintint [(T 12), (C (32))], none⟩,
 ⟨(some 14), .call true n_deflate_codeOf [(T 13)], none⟩,
 ⟨(some 15), .build [(.slice none 0 0), (.slice none 0 0), (.slice none 0 0), (.slice none 0 0)] [(0, 2, (T 11)), (2, 2, (T 14))], none⟩,
 ⟨none, .store (some 4) (T 0) (T 15), none⟩])
 .ret))
theorem e_deflate_fixedCodes : slimC Tryd.prog 16 (Tryd.f46.body.getD .skip) = s_deflate_fixedCodes := by kernel_rfl
theorem r_deflate_fixedCodes : slimRes Tryd.prog Tryd.f46 = some [.cell 0 (some 4)] := by kernel_rfl
def s_deflate_piecesOf_1 : SCode :=
 (.seq (.reg [⟨(some 7), .load none (T 1), none⟩,
 ⟨(some 8), .load none (T 2), none⟩,
 ⟨(some 9), .mv (T 0), none⟩,
 ⟨(some 10), .sl none (T 7) (some (T 8)) (some (T 9)), none⟩,
 ⟨(some 11), .len false (T 10), none⟩,
 ⟨(some 12), .mv (C (0)), none⟩])
 (.block 0
 (.loop
 (.seq (.reg [⟨(some 13), .bin .lss (T 12) (T 11), none⟩])
 (.seq (.cond (T 13)
 .skip
 (.exit 0))
 (.seq (.block 1
 (.seq (.reg [⟨(some 14), .iaddr none (T 10) (T 12), none⟩,
 ⟨(some 15), .load none (T 14), none⟩,
 ⟨(some 6), .mv (T 15), none⟩])
 (.reg [⟨(some 16), .load none (T 3), none⟩,
 ⟨(some 17), .mv (T 6), none⟩,
 ⟨(some 18), .ci .u16 (T 17), none⟩,
 ⟨(some 19), .build [(.int .u16 (0)), (.int .u16 (0))] [(0, 1, (T 18))], none⟩,
 ⟨(some 20), .bslice (some 2) [(T 19)], none⟩,
 ⟨(some 21), .app (some 2) 4 (T 16) (T 20), none⟩,
 ⟨none, .store none (T 3) (T 21), none⟩])))
 (.reg [⟨(some 22), .bin .add (T 12) (C (1)), none⟩,
 ⟨(some 12), .mv (T 22), none⟩])))))))
theorem e_deflate_piecesOf_1 : slimC Tryd.prog 23 (Tryd.f47.body.getD .skip) = s_deflate_piecesOf_1 := by kernel_rfl
theorem r_deflate_piecesOf_1 : slimRes Tryd.prog Tryd.f47 = some [] := by kernel_rfl
def s_deflate_eachRun : SCode :=
 (.seq (.reg [⟨(some 8), .mv (T 0), none⟩,
 ⟨(some 9), .call true n_deflate_newFinder [(T 8)], none⟩,
 ⟨(some 4), .mv (T 9), none⟩])
 (.seq (.reg [⟨(some 5), .mv (C (0)), none⟩])
 (.block 0
 (.loop
 (.seq (.seq (.reg [⟨(some 10), .mv (T 5), none⟩,
 ⟨(some 11), .mv (T 0), none⟩,
 ⟨(some 12), .len false (T 11), none⟩,
 ⟨(some 13), .bin .lss (T 10) (T 12), none⟩])
 (.cond (T 13)
 .skip
 (.exit 0)))
 (.block 1
 (.seq (.reg [⟨(some 15), .mv (T 4), none⟩,
 ⟨(some 16), .mv (T 5), none⟩,
 ⟨(some 17), .call true n_deflate_finder_longest [(T 15), (T 16)], none⟩,
 ⟨(some 14), .mv (T 17), none⟩,
 ⟨(some 18), .ext (T 14) 0, none⟩,
 ⟨(some 19), .ext (T 14) 1, none⟩,
 ⟨(some 6), .mv (T 18), none⟩,
 ⟨(some 7), .mv (T 19), none⟩])
 (.seq (.seq (.reg [⟨(some 20), .mv (T 6), none⟩,
 ⟨(some 21), .bin .gtr (T 20) (C (0)), none⟩])
 (.cond (T 21)
 (.reg [⟨(some 22), .mv (T 1), none⟩,
 ⟨(some 23), .mv (T 5), none⟩,
 ⟨(some 24), .mv (T 6), none⟩,
 ⟨(some 25), .mv (T 7), none⟩,
 ⟨(some 26), .callv true (T 22) [(T 23), (T 24), (T 25)], none⟩])
 .skip))
 (.seq (.reg [⟨(some 27), .mv (T 6), none⟩,
 ⟨(some 28), .mm true (T 27) [(C (1))], none⟩,
 ⟨(some 29), .mv (C (0)), none⟩])
 (.block 2
 (.loop
 (.seq (.reg [⟨(some 30), .bin .lss (T 29) (T 28), none⟩])
 (.seq (.cond (T 30)
 .skip
 (.exit 2))
 (.seq (.block 3
 (.seq (.reg [⟨(some 31), .mv (T 4), none⟩,
 ⟨(some 32), .mv (T 5), none⟩,
 ⟨(some 33), .call true n_deflate_finder_add [(T 31), (T 32)], none⟩])
 (.reg [⟨(some 34), .mv (T 5), none⟩,
 ⟨(some 35), .bin .add (T 34) (C (1)), none⟩,
 ⟨(some 5), .mv (T 35), none⟩])))
 (.reg [⟨(some 36), .bin .add (T 29) (C (1)), none⟩,
 ⟨(some 29), .mv (T 36), none⟩])))))))))))))))
theorem e_deflate_eachRun : slimC Tryd.prog 37 (Tryd.f48.body.getD .skip) = s_deflate_eachRun := by kernel_rfl
theorem r_deflate_eachRun : slimRes Tryd.prog Tryd.f48 = some [] := by kernel_rfl
def s_deflate_piecesOf_2 : SCode :=
 (.seq (.reg [⟨(some 9), .load none (T 3), none⟩,
 ⟨(some 10), .mv (T 0), none⟩,
 ⟨(some 11), .callv true (T 9) [(T 10)], none⟩])
 (.seq (.reg [⟨(some 12), .load none (T 4), none⟩,
 ⟨(some 13), .mv (T 1), none⟩,
 ⟨(some 14), .ci .u16 (T 13), none⟩,
 ⟨(some 15), .mv (T 2), none⟩,
 ⟨(some 16), .ci .u16 (T 15), none⟩,
 ⟨(some 17), .build [(.int .u16 (0)), (.int .u16 (0))] [(0, 1, (T 14)), (1, 1, (T 16))], none⟩,
 ⟨(some 18), .bslice (some 2) [(T 17)], none⟩,
 ⟨(some 19), .app (some 2) 4 (T 12) (T 18), none⟩,
 ⟨none, .store none (T 4) (T 19), none⟩])
 (.reg [⟨(some 20), .mv (T 0), none⟩,
 ⟨(some 21), .mv (T 1), none⟩,
 ⟨(some 22), .bin .add (T 20) (T 21), none⟩,
 ⟨none, .store none (T 5) (T 22), none⟩])))
theorem e_deflate_piecesOf_2 : slimC Tryd.prog 23 (Tryd.f49.body.getD .skip) = s_deflate_piecesOf_2 := by kernel_rfl
theorem r_deflate_piecesOf_2 : slimRes Tryd.prog Tryd.f49 = some [] := by kernel_rfl
def s_deflate_bestCodes : SCode :=
 (.seq (.reg [⟨(some 2), .alloc [(.slice none 0 0), (.slice none 0 0), (.slice none 0 0), (.slice none 0 0)], none⟩])
 (.seq (.reg2 [⟨(some 7), .mks none 8 [(.int .i64 (0))] (C (286)) (C (286)), none⟩,
 ⟨(some 8), .mks none 8 [(.int .i64 (0))] (C (30)) (C (30)), none⟩,
 ⟨(some 3), .mv (T 7), none⟩,
 ⟨(some 4), .mv (T 8), none⟩])
 (.seq (.seq (.reg [⟨(some 9), .mv (T 0), none⟩,
 ⟨(some 10), .len false (T 9), none⟩,
 ⟨(some 11), .mv (C (0)), none⟩])
 (.block 0
 (.loop
 (.seq (.reg [⟨(some 12), .bin .lss (T 11) (T 10), none⟩])
 (.seq (.cond (T 12)
 .skip
 (.exit 0))
 (.seq (.block 1
 (.seq (.reg [⟨(some 13), .iaddr (some 2) (T 9) (T 11), none⟩,
 ⟨(some 14), .load (some 2) (T 13), none⟩,
 ⟨(some 6), .alloc [(.int .u16 (0)), (.int .u16 (0))], none⟩,
 ⟨none, .store (some 2) (T 6) (T 14), none⟩])
 (.seq (.reg [⟨(some 15), .mv (T 3), none⟩,
 ⟨(some 16), .load (some 2) (T 6), none⟩,
 ⟨(some 17), .call true n_deflate_piece_literal [(T 16)], none⟩,
 ⟨(some 18), .fld 0 none (T 17), none⟩,
 ⟨(some 19), .iaddr none (T 15) (T 18), none⟩,
 ⟨(some 20), .load none (T 19), none⟩,
 ⟨(some 21), .bin .add (T 20) (C (1)), none⟩,
 ⟨(some 22), .iaddr none (T 15) (T 18), none⟩,
 ⟨none, .store none (T 22) (T 21), none⟩])
 (.seq (.reg [⟨(some 23), .load (some 2) (T 6), none⟩,
 ⟨(some 24), .call true n_deflate_piece_isRun [(T 23)], none⟩])
 (.cond (T 24)
 (.reg [⟨(some 25), .mv (T 4), none⟩,
 ⟨(some 26), .load (some 2) (T 6), none⟩,
 ⟨(some 27), .call true n_deflate_piece_distance [(T 26)], none⟩,
 ⟨(some 28), .fld 0 none (T 27), none⟩,
 ⟨(some 29), .iaddr none (T 25) (T 28), none⟩,
 ⟨(some 30), .load none (T 29), none⟩,
 ⟨(some 31), .bin .add (T 30) (C (1)), none⟩,
 ⟨(some 32), .iaddr none (T 25) (T 28), none⟩,
 ⟨none, .store none (T 32) (T 31), none⟩])
 .skip)))))
 (.reg [⟨(some 33), .bin .add (T 11) (C (1)), none⟩,
 ⟨(some 11), .mv (T 33), none⟩])))))))
 (.seq (.reg [⟨(some 34), .mv (T 3), none⟩,
 ⟨(some 35), .iaddr none (T 34) (C (256)), none⟩,
 ⟨(some 36), .load none (T 35), none⟩,
 ⟨(some 37), .bin .add (T 36) (C (1)), none⟩,
 ⟨(some 38), .iaddr none (T 34) (C (256)), none⟩,
 ⟨none, .store none (T 38) (T 37), none⟩])
 (.seq (.seq (.reg [⟨(some 39), .mv (T 0), none⟩,
 ⟨(some 40), .len false (T 39), none⟩,
 ⟨(some 41), .bin .eql (T 40) (C (0)), none⟩])
 (.cond (T 41)
 (.reg [⟨(some 42), .mv (T 3), none⟩,
 ⟨(some 43), .iaddr none (T 42) (C (0)), none⟩,
 ⟨(some 44), .load none (T 43), none⟩,
 ⟨(some 45), .bin .add (T 44) (C (1)), none⟩,
 ⟨(some 46), .iaddr none (T 42) (C (0)), none⟩,
 ⟨none, .store none (T 46) (T 45), none⟩])
 .skip))
 (.seq (.reg [⟨(some 47), .mv (T 3), none⟩,
 ⟨(some 48), .call true n_deflate_bestCode [(T 47), (C (15))], none⟩,
 ⟨(some 49), .mv (T 4), none⟩,
 ⟨(some 50), .call true n_deflate_bestCode [(T 49), (C (15))], none⟩,
 ⟨(some 51), .build [(.slice none 0 0), (.slice none 0 0), (.slice none 0 0), (.slice none 0 0)] [(0, 2, (T 48)), (2, 2, (T 50))], none⟩,
 ⟨none, .store (some 4) (T 2) (T 51), none⟩])
 .ret))))))
theorem e_deflate_bestCodes : slimC Tryd.prog 52 (Tryd.f50.body.getD .skip) = s_deflate_bestCodes := by kernel_rfl
theorem r_deflate_bestCodes : slimRes Tryd.prog Tryd.f50 = some [.cell 2 (some 4)] := by kernel_rfl
def s_deflate_packer_tell : SCode :=
 (.seq (.reg [⟨(some 2), .box (T 0), none⟩,
 ⟨(some 3), .box (T 1), none⟩])
 (.seq (.reg [⟨(some 15), .faddr 0 (T 3), none⟩,
 ⟨(some 16), .faddr 0 (T 15), none⟩,
 ⟨(some 17), .load none (T 16), none⟩,
 ⟨(some 18), .call false n_deflate_cut [(T 17), (C (257))], none⟩,
 ⟨(some 19), .faddr 2 (T 3), none⟩,
 ⟨(some 20), .faddr 0 (T 19), none⟩,
 ⟨(some 21), .load none (T 20), none⟩,
 ⟨(some 22), .call false n_deflate_cut [(T 21), (C (1))], none⟩,
 ⟨(some 4), .mv (T 18), none⟩,
 ⟨(some 5), .mv (T 22), none⟩])
 (.seq (.reg [⟨(some 23), .mv (T 4), none⟩,
 ⟨(some 24), .mv (T 5), none⟩,
 ⟨(some 25), .bsl none [(T 23), (T 24)], none⟩,
 ⟨(some 26), .call true n_slices_Concatintint [(T 25)], none⟩,
 ⟨(some 27), .call true n_deflate_tellsOf [(T 26)], none⟩,
 ⟨(some 6), .mv (T 27), none⟩])
 (.seq (.reg [⟨(some 28), .mv (T 6), none⟩,
 ⟨(some 29), .call true n_deflate_bestTeller [(T 28)], none⟩,
 ⟨(some 7), .alloc [(.slice none 0 0), (.slice none 0 0)], none⟩,
 ⟨none, .store (some 2) (T 7) (T 29), none⟩])
 (.seq (.reg [⟨(some 8), .mv (.const (.slice none 0 0)), none⟩])
 (.seq (.seq (.reg [⟨(some 30), .load (some 19) (.global 0), none⟩,
 ⟨(some 31), .mv (C (0)), none⟩])
 (.block 0
 (.loop
 (.seq (.reg [⟨(some 32), .bin .lss (T 31) (C (19)), none⟩])
 (.seq (.cond (T 32)
 .skip
 (.exit 0))
 (.seq (.block 1
 (.seq (.reg [⟨(some 33), .idxA 19 none (T 30) (T 31), none⟩,
 ⟨(some 10), .mv (T 33), none⟩])
 (.reg [⟨(some 34), .mv (T 8), none⟩,
 ⟨(some 35), .faddr 0 (T 7), none⟩,
 ⟨(some 36), .load none (T 35), none⟩,
 ⟨(some 37), .mv (T 10), none⟩,
 ⟨(some 38), .iaddr none (T 36) (T 37), none⟩,
 ⟨(some 39), .load none (T 38), none⟩,
 ⟨(some 40), .bslice none [(T 39)], none⟩,
 ⟨(some 41), .app none 8 (T 34) (T 40), none⟩,
 ⟨(some 8), .mv (T 41), none⟩])))
 (.reg [⟨(some 42), .bin .add (T 31) (C (1)), none⟩,
 ⟨(some 31), .mv (T 42), none⟩])))))))
 (.seq (.reg [⟨(some 43), .mv (T 8), none⟩,
 ⟨(some 44), .call true n_deflate_cut [(T 43), (C (4))], none⟩,
 ⟨(some 8), .mv (T 44), none⟩])
 (.seq (.reg [⟨(some 45), .faddr 0 (T 2), none⟩,
 ⟨(some 46), .load none (T 45), none⟩,
 ⟨(some 47), .mv (T 4), none⟩,
 ⟨(some 48), .len false (T 47), none⟩,
 ⟨(some 49), .bin .sub (T 48) (C (257)), none⟩,
 ⟨(some 50), .call true n_huff_Writer_Put [(T 46), (T 49), (C (5))], none⟩])
 (.seq (.reg [⟨(some 51), .faddr 0 (T 2), none⟩,
 ⟨(some 52), .load none (T 51), none⟩,
 ⟨(some 53), .mv (T 5), none⟩,
 ⟨(some 54), .len false (T 53), none⟩,
 ⟨(some 55), .bin .sub (T 54) (C (1)), none⟩,
 ⟨(some 56), .call true n_huff_Writer_Put [(T 52), (T 55), (C (5))], none⟩])
 (.seq (.reg [⟨(some 57), .faddr 0 (T 2), none⟩,
 ⟨(some 58), .load none (T 57), none⟩,
 ⟨(some 59), .mv (T 8), none⟩,
 ⟨(some 60), .len false (T 59), none⟩,
 ⟨(some 61), .bin .sub (T 60) (C (4)), none⟩,
 ⟨(some 62), .call true n_huff_Writer_Put [(T 58), (T 61), (C (4))], none⟩])
 (.seq (.seq (.reg [⟨(some 63), .mv (T 8), none⟩,
 ⟨(some 64), .len false (T 63), none⟩,
 ⟨(some 65), .mv (C (0)), none⟩])
 (.block 2
 (.loop
 (.seq (.reg [⟨(some 66), .bin .lss (T 65) (T 64), none⟩])
 (.seq (.cond (T 66)
 .skip
 (.exit 2))
 (.seq (.block 3
 (.seq (.reg [⟨(some 67), .iaddr none (T 63) (T 65), none⟩,
 ⟨(some 68), .load none (T 67), none⟩,
 ⟨(some 12), .mv (T 68), none⟩])
 (.reg [⟨(some 69), .faddr 0 (T 2), none⟩,
 ⟨(some 70), .load none (T 69), none⟩,
 ⟨(some 71), .mv (T 12), none⟩,
 ⟨(some 72), .call true n_huff_Writer_Put [(T 70), (T 71), (C (3))], none⟩])))
 (.reg [⟨(some 73), .bin .add (T 65) (C (1)), none⟩,
 ⟨(some 65), .mv (T 73), none⟩])))))))
 (.seq (.reg [⟨(some 74), .mv (T 6), none⟩,
 ⟨(some 75), .len false (T 74), none⟩,
 ⟨(some 76), .mv (C (0)), none⟩])
 (.block 4
 (.loop
 (.seq (.reg [⟨(some 77), .bin .lss (T 76) (T 75), none⟩])
 (.seq (.cond (T 77)
 .skip
 (.exit 4))
 (.seq (.block 5
 (.seq (.reg [⟨(some 78), .iaddr (some 3) (T 74) (T 76), none⟩,
 ⟨(some 79), .load (some 3) (T 78), none⟩,
 ⟨(some 14), .alloc [(.int .i64 (0)), (.int .i64 (0)), (.int .i64 (0))], none⟩,
 ⟨none, .store (some 3) (T 14) (T 79), none⟩])
 (.reg [⟨(some 80), .load (some 1) (T 2), none⟩,
 ⟨(some 81), .load (some 2) (T 7), none⟩,
 ⟨(some 82), .load (some 3) (T 14), none⟩,
 ⟨(some 83), .call true n_deflate_packer_symbol [(T 80), (T 81), (T 82)], none⟩])))
 (.reg [⟨(some 84), .bin .add (T 76) (C (1)), none⟩,
 ⟨(some 76), .mv (T 84), none⟩]))))))))))))))))))
theorem e_deflate_packer_tell : slimC Tryd.prog 85 (Tryd.f51.body.getD .skip) = s_deflate_packer_tell := by kernel_rfl
theorem r_deflate_packer_tell : slimRes Tryd.prog Tryd.f51 = some [] := by kernel_rfl
def s_slices_Concatintint : SCode :=
 (.seq (.reg [⟨(some 2), .mv (.const (.slice none 0 0)), none⟩])
 (.seq (.reg [⟨(some 3), .mv (C (0)), none⟩])
 (.seq (.seq (.reg [⟨(some 9), .mv (T 0), none⟩,
 ⟨(some 10), .len false (T 9), none⟩,
 ⟨(some 11), .mv (C (0)), none⟩])
 (.block 0
 (.loop
 (.seq (.reg [⟨(some 12), .bin .lss (T 11) (T 10), none⟩])
 (.seq (.cond (T 12)
 .skip
 (.exit 0))
 (.seq (.block 1
 (.seq (.reg [⟨(some 13), .iaddr none (T 9) (T 11), none⟩,
 ⟨(some 14), .load none (T 13), none⟩,
 ⟨(some 5), .mv (T 14), none⟩])
 (.seq (.reg [⟨(some 15), .mv (T 3), none⟩,
 ⟨(some 16), .mv (T 5), none⟩,
 ⟨(some 17), .len false (T 16), none⟩,
 ⟨(some 18), .bin .add (T 15) (T 17), none⟩,
 ⟨(some 3), .mv (T 18), none⟩])
 (.seq (.reg [⟨(some 19), .mv (T 3), none⟩,
 ⟨(some 20), .bin .lss (T 19) (C (0)), none⟩])
 (.cond (T 20)
 (.reg [⟨(some 21), .no, none⟩,
 ⟨none, .no, none⟩])
 .skip)))))
 (.reg [⟨(some 22), .bin .add (T 11) (C (1)), none⟩,
 ⟨(some 11), .mv (T 22), none⟩])))))))
 (.seq (.reg [⟨(some 23), .mv (T 3), none⟩,
 ⟨(some 24), .call true n_slices_Growintint [(.const (.slice none 0 0)), (T 23)], none⟩,
 ⟨(some 6), .mv (T 24), none⟩])
 (.seq (.seq (.reg [⟨(some 25), .mv (T 0), none⟩,
 ⟨(some 26), .len false (T 25), none⟩,
 ⟨(some 27), .mv (C (0)), none⟩])
 (.block 2
 (.loop
 (.seq (.reg [⟨(some 28), .bin .lss (T 27) (T 26), none⟩])
 (.seq (.cond (T 28)
 .skip
 (.exit 2))
 (.seq (.block 3
 (.seq (.reg [⟨(some 29), .iaddr none (T 25) (T 27), none⟩,
 ⟨(some 30), .load none (T 29), none⟩,
 ⟨(some 8), .mv (T 30), none⟩])
 (.reg [⟨(some 31), .mv (T 6), none⟩,
 ⟨(some 32), .mv (T 8), none⟩,
 ⟨(some 33), .app none 8 (T 31) (T 32), none⟩,
 ⟨(some 6), .mv (T 33), none⟩])))
 (.reg [⟨(some 34), .bin .add (T 27) (C (1)), none⟩,
 ⟨(some 27), .mv (T 34), none⟩])))))))
 (.seq (.reg [⟨(some 35), .mv (T 6), none⟩,
 ⟨(some 2), .mv (T 35), none⟩])
 .ret))))))
theorem e_slices_Concatintint : slimC Tryd.prog 36 (Tryd.f58.body.getD .skip) = s_slices_Concatintint := by kernel_rfl
theorem r_slices_Concatintint : slimRes Tryd.prog Tryd.f58 = some [.tmp 2] := by kernel_rfl
def s_slices_Repeatintint : SCode :=
 (.seq (.reg [⟨(some 4), .mv (.const (.slice none 0 0)), none⟩])
 (.seq (.seq (.reg [⟨(some 9), .mv (T 1), none⟩,
 ⟨(some 10), .bin .lss (T 9) (C (0)), none⟩])
 (.cond (T 10)
 (.reg [⟨(some 11), .no, none⟩,
 ⟨none, .no, none⟩])
 .skip))
 (.seq (.reg [⟨(some 13), .mv (T 0), none⟩,
 ⟨(some 14), .len false (T 13), none⟩,
 ⟨(some 15), .ci .u64 (T 14), none⟩,
 ⟨(some 16), .mv (T 1), none⟩,
 ⟨(some 17), .ci .u64 (T 16), none⟩,
 ⟨(some 18), .call true n_bits_Mul [(T 15), (T 17)], none⟩,
 ⟨(some 12), .mv (T 18), none⟩,
 ⟨(some 19), .ext (T 12) 0, none⟩,
 ⟨(some 20), .ext (T 12) 1, none⟩,
 ⟨(some 5), .mv (T 19), none⟩,
 ⟨(some 6), .mv (T 20), none⟩])
 (.seq (.seq (.reg [⟨(some 21), .mv (T 5), none⟩,
 ⟨(some 22), .bin .gtr (T 21) (.const (.int .u64 (0))), none⟩,
 ⟨(some 23), .mv (T 22), none⟩,
 ⟨(some 24), .mv (T 6), (some (23, false))⟩,
 ⟨(some 25), .bin .gtr (T 24) (.const (.int .u64 (9223372036854775807))), (some (23, false))⟩,
 ⟨(some 26), .pick (T 23) (.const (.bool true)) (T 25), none⟩])
 (.cond (T 26)
 (.reg [⟨(some 27), .no, none⟩,
 ⟨none, .no, none⟩])
 .skip))
 (.seq (.reg [⟨(some 28), .mv (T 6), none⟩,
 ⟨(some 29), .ci .i64 (T 28), none⟩,
 ⟨(some 30), .mks none 8 [(.int .i64 (0))] (T 29) (T 29), none⟩,
 ⟨(some 7), .mv (T 30), none⟩])
 (.seq (.reg [⟨(some 31), .mv (T 7), none⟩,
 ⟨(some 32), .mv (T 0), none⟩,
 ⟨(some 33), .copy (T 31) (T 32), none⟩,
 ⟨(some 8), .mv (T 33), none⟩])
 (.seq (.block 0
 (.loop
 (.seq (.seq (.reg [⟨(some 34), .mv (T 8), none⟩,
 ⟨(some 35), .mv (T 7), none⟩,
 ⟨(some 36), .len false (T 35), none⟩,
 ⟨(some 37), .bin .lss (T 34) (T 36), none⟩])
 (.cond (T 37)
 .skip
 (.exit 0)))
 (.block 1
 (.reg [⟨(some 38), .mv (T 8), none⟩,
 ⟨(some 39), .mv (T 7), none⟩,
 ⟨(some 40), .mv (T 8), none⟩,
 ⟨(some 41), .sl none (T 39) (some (T 40)) none, none⟩,
 ⟨(some 42), .mv (T 7), none⟩,
 ⟨(some 43), .mv (T 8), none⟩,
 ⟨(some 44), .sl none (T 42) none (some (T 43)), none⟩,
 ⟨(some 45), .copy (T 41) (T 44), none⟩,
 ⟨(some 46), .bin .add (T 38) (T 45), none⟩,
 ⟨(some 8), .mv (T 46), none⟩])))))
 (.seq (.reg [⟨(some 47), .mv (T 7), none⟩,
 ⟨(some 4), .mv (T 47), none⟩])
 .ret))))))))
theorem e_slices_Repeatintint : slimC Tryd.prog 48 (Tryd.f59.body.getD .skip) = s_slices_Repeatintint := by kernel_rfl
theorem r_slices_Repeatintint : slimRes Tryd.prog Tryd.f59 = some [.tmp 4] := by kernel_rfl
def s_huff_Writer_Align : SCode :=
 (.reg [⟨(some 2), .mv (T 0), none⟩,
 ⟨(some 3), .mv (T 0), none⟩,
 ⟨(some 4), .nilc (T 3), none⟩,
 ⟨(some 5), .faddr 0 (T 4), none⟩,
 ⟨(some 6), .load none (T 5), none⟩,
 ⟨(some 7), .len false (T 6), none⟩,
 ⟨(some 8), .bin .mul (T 7) (C (8)), none⟩,
 ⟨(some 9), .nilc (T 2), none⟩,
 ⟨(some 10), .faddr 1 (T 9), none⟩,
 ⟨none, .store none (T 10) (T 8), none⟩])
theorem e_huff_Writer_Align : slimC Tryd.prog 11 (Tryd.f70.body.getD .skip) = s_huff_Writer_Align := by kernel_rfl
theorem r_huff_Writer_Align : slimRes Tryd.prog Tryd.f70 = some [] := by kernel_rfl
def s_huff_Writer_Put : SCode :=
 (.seq (.seq (.reg [⟨(some 7), .mv (T 2), none⟩,
 ⟨(some 8), .bin .lss (T 7) (C (0)), none⟩,
 ⟨(some 9), .mv (T 8), none⟩,
 ⟨(some 10), .mv (T 2), (some (9, false))⟩,
 ⟨(some 11), .bin .gtr (T 10) (C (24)), (some (9, false))⟩,
 ⟨(some 12), .pick (T 9) (.const (.bool true)) (T 11), none⟩])
 (.cond (T 12)
 .ret
 .skip))
 (.seq (.reg [⟨(some 13), .mv (T 2), none⟩,
 ⟨(some 14), .mv (C (0)), none⟩])
 (.block 0
 (.loop
 (.seq (.reg [⟨(some 15), .bin .lss (T 14) (T 13), none⟩])
 (.seq (.cond (T 15)
 .skip
 (.exit 0))
 (.seq (.block 1
 (.seq (.reg [⟨(some 16), .mv (T 14), none⟩,
 ⟨(some 6), .mv (T 16), none⟩])
 (.reg [⟨(some 17), .mv (T 0), none⟩,
 ⟨(some 18), .mv (T 1), none⟩,
 ⟨(some 19), .mv (T 6), none⟩,
 ⟨(some 20), .bin .shr (T 18) (T 19), none⟩,
 ⟨(some 21), .bin .and (T 20) (C (1)), none⟩,
 ⟨(some 22), .call true n_huff_Writer_bit [(T 17), (T 21)], none⟩])))
 (.reg [⟨(some 23), .bin .add (T 14) (C (1)), none⟩,
 ⟨(some 14), .mv (T 23), none⟩]))))))))
theorem e_huff_Writer_Put : slimC Tryd.prog 24 (Tryd.f71.body.getD .skip) = s_huff_Writer_Put := by kernel_rfl
theorem r_huff_Writer_Put : slimRes Tryd.prog Tryd.f71 = some [] := by kernel_rfl
def s_huff_Writer_Raw : SCode :=
 (.seq (.reg [⟨(some 4), .mv (T 0), none⟩,
 ⟨(some 5), .mv (T 0), none⟩,
 ⟨(some 6), .nilc (T 5), none⟩,
 ⟨(some 7), .faddr 0 (T 6), none⟩,
 ⟨(some 8), .load none (T 7), none⟩,
 ⟨(some 9), .mv (T 1), none⟩,
 ⟨(some 10), .app none 1 (T 8) (T 9), none⟩,
 ⟨(some 11), .nilc (T 4), none⟩,
 ⟨(some 12), .faddr 0 (T 11), none⟩,
 ⟨none, .store none (T 12) (T 10), none⟩])
 (.reg [⟨(some 13), .mv (T 0), none⟩,
 ⟨(some 14), .call true n_huff_Writer_Align [(T 13)], none⟩]))
theorem e_huff_Writer_Raw : slimC Tryd.prog 15 (Tryd.f72.body.getD .skip) = s_huff_Writer_Raw := by kernel_rfl
theorem r_huff_Writer_Raw : slimRes Tryd.prog Tryd.f72 = some [] := by kernel_rfl
def s_deflate_packer_symbol : SCode :=
 (.seq (.reg [⟨(some 3), .box (T 0), none⟩,
 ⟨(some 4), .box (T 1), none⟩,
 ⟨(some 5), .box (T 2), none⟩])
 (.seq (.reg [⟨(some 6), .faddr 0 (T 3), none⟩,
 ⟨(some 7), .load none (T 6), none⟩,
 ⟨(some 8), .faddr 1 (T 4), none⟩,
 ⟨(some 9), .load none (T 8), none⟩,
 ⟨(some 10), .faddr 0 (T 5), none⟩,
 ⟨(some 11), .load none (T 10), none⟩,
 ⟨(some 12), .iaddr none (T 9) (T 11), none⟩,
 ⟨(some 13), .load none (T 12), none⟩,
 ⟨(some 14), .faddr 0 (T 4), none⟩,
 ⟨(some 15), .load none (T 14), none⟩,
 ⟨(some 16), .faddr 0 (T 5), none⟩,
 ⟨(some 17), .load none (T 16), none⟩,
 ⟨(some 18), .iaddr none (T 15) (T 17), none⟩,
 ⟨(some 19), .load none (T 18), none⟩,
 ⟨(some 20), .call true n_huff_Writer_Code [(T 7), (T 13), (T 19)], none⟩])
 (.reg [⟨(some 21), .faddr 0 (T 3), none⟩,
 ⟨(some 22), .load none (T 21), none⟩,
 ⟨(some 23), .faddr 1 (T 5), none⟩,
 ⟨(some 24), .load none (T 23), none⟩,
 ⟨(some 25), .faddr 2 (T 5), none⟩,
 ⟨(some 26), .load none (T 25), none⟩,
 ⟨(some 27), .call true n_huff_Writer_Put [(T 22), (T 24), (T 26)], none⟩])))
theorem e_deflate_packer_symbol : slimC Tryd.prog 28 (Tryd.f73.body.getD .skip) = s_deflate_packer_symbol := by kernel_rfl
theorem r_deflate_packer_symbol : slimRes Tryd.prog Tryd.f73 = some [] := by kernel_rfl
def s_deflate_piece_literal : SCode :=
 (.seq (.reg [⟨(some 1), .box (T 0), none⟩,
 ⟨(some 2), .alloc [(.int .i64 (0)), (.int .i64 (0)), (.int .i64 (0))], none⟩])
 (.seq (.seq (.reg [⟨(some 4), .load (some 2) (T 1), none⟩,
 ⟨(some 5), .call true n_deflate_piece_isRun [(T 4)], none⟩,
 ⟨(some 6), .un .not (T 5), none⟩])
 (.cond (T 6)
 (.seq (.reg [⟨(some 7), .faddr 0 (T 1), none⟩,
 ⟨(some 8), .load none (T 7), none⟩,
 ⟨(some 9), .ci .i64 (T 8), none⟩,
 ⟨(some 10), .build [(.int .i64 (0)), (.int .i64 (0)), (.int .i64 (0))] [(0, 1, (T 9))], none⟩,
 ⟨none, .store (some 3) (T 2) (T 10), none⟩])
 .ret)
 .skip))
 (.seq (.seq (.reg [⟨(some 11), .faddr 0 (T 1), none⟩,
 ⟨(some 12), .load none (T 11), none⟩,
 ⟨(some 13), .bin .eql (T 12) (.const (.int .u16 (258))), none⟩])
 (.cond (T 13)
 (.seq (.reg [⟨(some 14), .build [(.int .i64 (0)), (.int .i64 (0)), (.int .i64 (0))] [(0, 1, (C (285)))], none⟩,
 ⟨none, .store (some 3) (T 2) (T 14), none⟩])
 .ret)
 .skip))
 (.seq (.reg [⟨(some 15), .faddr 0 (T 1), none⟩,
 ⟨(some 16), .load none (T 15), none⟩,
 ⟨(some 17), .ci .i64 (T 16), none⟩,
 ⟨(some 18), .bin .sub (T 17) (C (3)), none⟩,
 ⟨(some 19), .call true n_deflate_symbolOf [(T 18), (C (2))], none⟩,
 ⟨(some 3), .alloc [(.int .i64 (0)), (.int .i64 (0)), (.int .i64 (0))], none⟩,
 ⟨none, .store (some 3) (T 3) (T 19), none⟩])
 (.seq (.reg [⟨(some 20), .faddr 0 (T 3), none⟩,
 ⟨(some 21), .load none (T 20), none⟩,
 ⟨(some 22), .bin .add (T 21) (C (257)), none⟩,
 ⟨(some 23), .faddr 0 (T 3), none⟩,
 ⟨none, .store none (T 23) (T 22), none⟩])
 (.seq (.reg [⟨(some 24), .load (some 3) (T 3), none⟩,
 ⟨none, .store (some 3) (T 2) (T 24), none⟩])
 .ret))))))
theorem e_deflate_piece_literal : slimC Tryd.prog 25 (Tryd.f74.body.getD .skip) = s_deflate_piece_literal := by kernel_rfl
theorem r_deflate_piece_literal : slimRes Tryd.prog Tryd.f74 = some [.cell 2 (some 3)] := by kernel_rfl
def s_deflate_piece_isRun : SCode :=
 (.seq (.reg [⟨(some 1), .box (T 0), none⟩,
 ⟨(some 2), .mv (.const (.bool false)), none⟩])
 (.seq (.reg [⟨(some 3), .faddr 1 (T 1), none⟩,
 ⟨(some 4), .load none (T 3), none⟩,
 ⟨(some 5), .bin .gtr (T 4) (.const (.int .u16 (0))), none⟩,
 ⟨(some 2), .mv (T 5), none⟩])
 .ret))
theorem e_deflate_piece_isRun : slimC Tryd.prog 6 (Tryd.f75.body.getD .skip) = s_deflate_piece_isRun := by kernel_rfl
theorem r_deflate_piece_isRun : slimRes Tryd.prog Tryd.f75 = some [.tmp 2] := by kernel_rfl
def s_deflate_piece_distance : SCode :=
 (.seq (.reg [⟨(some 1), .box (T 0), none⟩,
 ⟨(some 2), .alloc [(.int .i64 (0)), (.int .i64 (0)), (.int .i64 (0))], none⟩])
 (.seq (.reg [⟨(some 3), .faddr 1 (T 1), none⟩,
 ⟨(some 4), .load none (T 3), none⟩,
 ⟨(some 5), .ci .i64 (T 4), none⟩,
 ⟨(some 6), .bin .sub (T 5) (C (1)), none⟩,
 ⟨(some 7), .call true n_deflate_symbolOf [(T 6), (C (1))], none⟩,
 ⟨none, .store (some 3) (T 2) (T 7), none⟩])
 .ret))
theorem e_deflate_piece_distance : slimC Tryd.prog 8 (Tryd.f76.body.getD .skip) = s_deflate_piece_distance := by kernel_rfl
theorem r_deflate_piece_distance : slimRes Tryd.prog Tryd.f76 = some [.cell 2 (some 3)] := by kernel_rfl
def s_deflate_codeOf : SCode :=
 (.seq (.reg [⟨(some 2), .alloc [(.slice none 0 0), (.slice none 0 0)], none⟩])
 (.seq (.reg [⟨(some 6), .mv (T 0), none⟩,
 ⟨(some 7), .call true n_huff_Codes [(T 6)], none⟩,
 ⟨(some 5), .mv (T 7), none⟩,
 ⟨(some 8), .ext (T 5) 0, none⟩,
 ⟨(some 9), .ext (T 5) 1, none⟩,
 ⟨(some 3), .mv (T 8), none⟩,
 ⟨(some 4), .mv (T 9), none⟩])
 (.seq (.reg [⟨(some 10), .mv (T 0), none⟩,
 ⟨(some 11), .mv (T 3), none⟩,
 ⟨(some 12), .build [(.slice none 0 0), (.slice none 0 0)] [(0, 1, (T 10)), (1, 1, (T 11))], none⟩,
 ⟨none, .store (some 2) (T 2) (T 12), none⟩])
 .ret)))
theorem e_deflate_codeOf : slimC Tryd.prog 13 (Tryd.f77.body.getD .skip) = s_deflate_codeOf := by kernel_rfl
theorem r_deflate_codeOf : slimRes Tryd.prog Tryd.f77 = some [.cell 2 (some 2)] := by kernel_rfl
def s_deflate_newFinder : SCode :=
 (.seq (.reg [⟨(some 2), .mv (.const (.pointer none)), none⟩])
 (.seq (.reg [⟨(some 4), .mv (T 0), none⟩,
 ⟨(some 5), .mkm, none⟩,
 ⟨(some 6), .mv (T 0), none⟩,
 ⟨(some 7), .len false (T 6), none⟩,
 ⟨(some 8), .mm false (T 7) [(C (32768))], none⟩,
 ⟨(some 9), .mks none 8 [(.int .i64 (0))] (T 8) (T 8), none⟩,
 ⟨(some 10), .build [(.slice none 0 0), (.map none), (.slice none 0 0), (.int .i64 (0))] [(0, 1, (T 4)), (1, 1, (T 5)), (2, 1, (T 9)), (3, 1, (C (256)))], none⟩,
 ⟨(some 11), .box (T 10), none⟩,
 ⟨(some 3), .mv (T 11), none⟩])
 (.seq (.seq (.reg [⟨(some 12), .mv (T 0), none⟩,
 ⟨(some 13), .len false (T 12), none⟩,
 ⟨(some 14), .bin .leq (T 13) (C (16000)), none⟩])
 (.cond (T 14)
 (.reg [⟨(some 15), .mv (T 3), none⟩,
 ⟨(some 16), .mv (T 0), none⟩,
 ⟨(some 17), .len false (T 16), none⟩,
 ⟨(some 18), .nilc (T 15), none⟩,
 ⟨(some 19), .faddr 3 (T 18), none⟩,
 ⟨none, .store none (T 19) (T 17), none⟩])
 .skip))
 (.seq (.reg [⟨(some 20), .mv (T 3), none⟩,
 ⟨(some 2), .mv (T 20), none⟩])
 .ret))))
theorem e_deflate_newFinder : slimC Tryd.prog 21 (Tryd.f78.body.getD .skip) = s_deflate_newFinder := by kernel_rfl
theorem r_deflate_newFinder : slimRes Tryd.prog Tryd.f78 = some [.tmp 2] := by kernel_rfl
def s_deflate_finder_longest : SCode :=
 (.seq (.reg [⟨(some 4), .mv (C (0)), none⟩,
 ⟨(some 5), .mv (C (0)), none⟩])
 (.seq (.reg [⟨(some 9), .mv (T 0), none⟩,
 ⟨(some 10), .nilc (T 9), none⟩,
 ⟨(some 11), .faddr 0 (T 10), none⟩,
 ⟨(some 12), .load none (T 11), none⟩,
 ⟨(some 13), .len false (T 12), none⟩,
 ⟨(some 14), .mv (T 1), none⟩,
 ⟨(some 15), .bin .sub (T 13) (T 14), none⟩,
 ⟨(some 16), .mm false (C (258)) [(T 15)], none⟩,
 ⟨(some 6), .mv (T 16), none⟩])
 (.seq (.reg [⟨(some 17), .mv (T 0), none⟩,
 ⟨(some 18), .mv (T 1), none⟩,
 ⟨(some 19), .call true n_deflate_finder_lastLike [(T 17), (T 18)], none⟩,
 ⟨(some 7), .mv (T 19), none⟩])
 (.seq (.seq (.reg [⟨(some 20), .mv (T 0), none⟩,
 ⟨(some 21), .nilc (T 20), none⟩,
 ⟨(some 22), .faddr 3 (T 21), none⟩,
 ⟨(some 23), .load none (T 22), none⟩,
 ⟨(some 24), .mv (C (0)), none⟩])
 (.block 0
 (.loop
 (.seq (.reg [⟨(some 25), .bin .lss (T 24) (T 23), none⟩])
 (.seq (.cond (T 25)
 .skip
 (.exit 0))
 (.seq (.block 1
 (.seq (.seq (.reg [⟨(some 26), .mv (T 1), none⟩,
 ⟨(some 27), .mv (T 7), none⟩,
 ⟨(some 28), .bin .sub (T 26) (T 27), none⟩,
 ⟨(some 29), .bin .gtr (T 28) (C (32768)), none⟩,
 ⟨(some 30), .mv (T 29), none⟩,
 ⟨(some 31), .mv (T 4), (some (30, false))⟩,
 ⟨(some 32), .mv (T 6), (some (30, false))⟩,
 ⟨(some 33), .bin .eql (T 31) (T 32), (some (30, false))⟩,
 ⟨(some 34), .pick (T 30) (.const (.bool true)) (T 33), none⟩])
 (.cond (T 34)
 (.exit 0)
 .skip))
 (.seq (.seq (.reg [⟨(some 35), .mv (T 0), none⟩,
 ⟨(some 36), .mv (T 7), none⟩,
 ⟨(some 37), .mv (T 1), none⟩,
 ⟨(some 38), .mv (T 6), none⟩,
 ⟨(some 39), .call true n_deflate_finder_alike [(T 35), (T 36), (T 37), (T 38)], none⟩,
 ⟨(some 8), .mv (T 39), none⟩])
 (.seq (.reg [⟨(some 40), .mv (T 8), none⟩,
 ⟨(some 41), .mv (T 4), none⟩,
 ⟨(some 42), .bin .gtr (T 40) (T 41), none⟩])
 (.cond (T 42)
 (.reg [⟨(some 43), .mv (T 8), none⟩,
 ⟨(some 44), .mv (T 1), none⟩,
 ⟨(some 45), .mv (T 7), none⟩,
 ⟨(some 46), .bin .sub (T 44) (T 45), none⟩,
 ⟨(some 4), .mv (T 43), none⟩,
 ⟨(some 5), .mv (T 46), none⟩])
 .skip)))
 (.reg [⟨(some 47), .mv (T 0), none⟩,
 ⟨(some 48), .nilc (T 47), none⟩,
 ⟨(some 49), .faddr 2 (T 48), none⟩,
 ⟨(some 50), .load none (T 49), none⟩,
 ⟨(some 51), .mv (T 7), none⟩,
 ⟨(some 52), .mv (T 0), none⟩,
 ⟨(some 53), .nilc (T 52), none⟩,
 ⟨(some 54), .faddr 2 (T 53), none⟩,
 ⟨(some 55), .load none (T 54), none⟩,
 ⟨(some 56), .len false (T 55), none⟩,
 ⟨(some 57), .bin .rem (T 51) (T 56), none⟩,
 ⟨(some 58), .iaddr none (T 50) (T 57), none⟩,
 ⟨(some 59), .load none (T 58), none⟩,
 ⟨(some 7), .mv (T 59), none⟩]))))
 (.reg [⟨(some 60), .bin .add (T 24) (C (1)), none⟩,
 ⟨(some 24), .mv (T 60), none⟩])))))))
 (.seq (.reg [⟨(some 61), .mv (T 4), none⟩,
 ⟨(some 62), .mv (T 5), none⟩,
 ⟨(some 4), .mv (T 61), none⟩,
 ⟨(some 5), .mv (T 62), none⟩])
 .ret)))))
theorem e_deflate_finder_longest : slimC Tryd.prog 63 (Tryd.f79.body.getD .skip) = s_deflate_finder_longest := by kernel_rfl
theorem r_deflate_finder_longest : slimRes Tryd.prog Tryd.f79 = some [.tmp 4, .tmp 5] := by kernel_rfl
def s_deflate_finder_add : SCode :=
 (.seq (.reg [⟨(some 9), .mv (T 1), none⟩,
 ⟨(some 10), .bin .sub (T 9) (C (32768)), none⟩,
 ⟨(some 4), .mv (T 10), none⟩])
 (.seq (.seq (.reg [⟨(some 12), .mv (T 0), none⟩,
 ⟨(some 13), .mv (T 4), none⟩,
 ⟨(some 14), .call true n_deflate_finder_start [(T 12), (T 13)], none⟩,
 ⟨(some 11), .mv (T 14), none⟩,
 ⟨(some 15), .ext (T 11) 0, none⟩,
 ⟨(some 16), .ext (T 11) 1, none⟩,
 ⟨(some 5), .alloc [(.int .u8 (0)), (.int .u8 (0)), (.int .u8 (0))], none⟩,
 ⟨none, .store (some 3) (T 5) (T 15), none⟩,
 ⟨(some 6), .mv (T 16), none⟩])
 (.seq (.reg [⟨(some 17), .mv (T 6), none⟩,
 ⟨(some 18), .mv (T 17), none⟩,
 ⟨(some 19), .mv (T 0), (some (18, true))⟩,
 ⟨(some 20), .nilc (T 19), (some (18, true))⟩,
 ⟨(some 21), .faddr 1 (T 20), (some (18, true))⟩,
 ⟨(some 22), .load none (T 21), (some (18, true))⟩,
 ⟨(some 23), .load (some 3) (T 5), (some (18, true))⟩,
 ⟨(some 24), .mget false (.agg #[(.int .u8 (0)), (.int .u8 (0)), (.int .u8 (0))]) (.int .i64 (0)) (T 22) (T 23), (some (18, true))⟩,
 ⟨(some 25), .mv (T 4), (some (18, true))⟩,
 ⟨(some 26), .bin .eql (T 24) (T 25), (some (18, true))⟩,
 ⟨(some 27), .pick (T 18) (T 26) (.const (.bool false)), none⟩])
 (.cond (T 27)
 (.reg [⟨(some 28), .mv (T 0), none⟩,
 ⟨(some 29), .nilc (T 28), none⟩,
 ⟨(some 30), .faddr 1 (T 29), none⟩,
 ⟨(some 31), .load none (T 30), none⟩,
 ⟨(some 32), .load (some 3) (T 5), none⟩,
 ⟨none, .mdel (.agg #[(.int .u8 (0)), (.int .u8 (0)), (.int .u8 (0))]) (T 31) (T 32), none⟩])
 .skip)))
 (.seq (.reg [⟨(some 34), .mv (T 0), none⟩,
 ⟨(some 35), .mv (T 1), none⟩,
 ⟨(some 36), .call true n_deflate_finder_start [(T 34), (T 35)], none⟩,
 ⟨(some 33), .mv (T 36), none⟩,
 ⟨(some 37), .ext (T 33) 0, none⟩,
 ⟨(some 38), .ext (T 33) 1, none⟩,
 ⟨(some 7), .alloc [(.int .u8 (0)), (.int .u8 (0)), (.int .u8 (0))], none⟩,
 ⟨none, .store (some 3) (T 7) (T 37), none⟩,
 ⟨(some 8), .mv (T 38), none⟩])
 (.seq (.reg [⟨(some 39), .mv (T 8), none⟩])
 (.cond (T 39)
 (.seq (.reg3 [⟨(some 40), .mv (T 0), none⟩,
 ⟨(some 41), .nilc (T 40), none⟩,
 ⟨(some 42), .faddr 2 (T 41), none⟩,
 ⟨(some 43), .load none (T 42), none⟩,
 ⟨(some 44), .mv (T 1), none⟩,
 ⟨(some 45), .mv (T 0), none⟩,
 ⟨(some 46), .nilc (T 45), none⟩,
 ⟨(some 47), .faddr 2 (T 46), none⟩,
 ⟨(some 48), .load none (T 47), none⟩,
 ⟨(some 49), .len false (T 48), none⟩,
 ⟨(some 50), .bin .rem (T 44) (T 49), none⟩,
 ⟨(some 51), .mv (T 0), none⟩,
 ⟨(some 52), .mv (T 1), none⟩,
 ⟨(some 53), .call true n_deflate_finder_lastLike [(T 51), (T 52)], none⟩]
 [(none, (T 42), 43), (none, (T 47), 48)]
 [⟨(some 54), .iaddr none (T 43) (T 50), none⟩,
 ⟨none, .store none (T 54) (T 53), none⟩])
 (.reg [⟨(some 55), .mv (T 0), none⟩,
 ⟨(some 56), .nilc (T 55), none⟩,
 ⟨(some 57), .faddr 1 (T 56), none⟩,
 ⟨(some 58), .load none (T 57), none⟩,
 ⟨(some 59), .load (some 3) (T 7), none⟩,
 ⟨(some 60), .mv (T 1), none⟩,
 ⟨none, .mset (.agg #[(.int .u8 (0)), (.int .u8 (0)), (.int .u8 (0))]) (T 58) (T 59) (T 60), none⟩]))
 .skip)))))
theorem e_deflate_finder_add : slimC Tryd.prog 61 (Tryd.f80.body.getD .skip) = s_deflate_finder_add := by kernel_rfl
theorem r_deflate_finder_add : slimRes Tryd.prog Tryd.f80 = some [] := by kernel_rfl
def s_deflate_bestCode : SCode :=
 (.seq (.reg [⟨(some 4), .alloc [(.slice none 0 0), (.slice none 0 0)], none⟩])
 (.seq (.reg [⟨(some 8), .mv (T 0), none⟩,
 ⟨(some 9), .mv (T 1), none⟩,
 ⟨(some 10), .call true n_huff_Lengths [(T 8), (T 9)], none⟩,
 ⟨(some 7), .mv (T 10), none⟩,
 ⟨(some 11), .ext (T 7) 0, none⟩,
 ⟨(some 12), .ext (T 7) 1, none⟩,
 ⟨(some 5), .mv (T 11), none⟩,
 ⟨(some 6), .mv (T 12), none⟩])
 (.seq (.reg [⟨(some 13), .mv (T 5), none⟩,
 ⟨(some 14), .call true n_deflate_codeOf [(T 13)], none⟩,
 ⟨none, .store (some 2) (T 4) (T 14), none⟩])
 .ret)))
theorem e_deflate_bestCode : slimC Tryd.prog 15 (Tryd.f81.body.getD .skip) = s_deflate_bestCode := by kernel_rfl
theorem r_deflate_bestCode : slimRes Tryd.prog Tryd.f81 = some [.cell 4 (some 2)] := by kernel_rfl
def s_deflate_cut : SCode :=
 (.seq (.reg [⟨(some 4), .mv (.const (.slice none 0 0)), none⟩])
 (.seq (.reg [⟨(some 6), .mv (T 0), none⟩,
 ⟨(some 7), .len false (T 6), none⟩,
 ⟨(some 5), .mv (T 7), none⟩])
 (.seq (.block 0
 (.loop
 (.seq (.seq (.reg [⟨(some 8), .mv (T 5), none⟩,
 ⟨(some 9), .mv (T 1), none⟩,
 ⟨(some 10), .bin .gtr (T 8) (T 9), none⟩,
 ⟨(some 11), .mv (T 10), none⟩,
 ⟨(some 12), .mv (T 0), (some (11, true))⟩,
 ⟨(some 13), .mv (T 5), (some (11, true))⟩,
 ⟨(some 14), .bin .sub (T 13) (C (1)), (some (11, true))⟩,
 ⟨(some 15), .iaddr none (T 12) (T 14), (some (11, true))⟩,
 ⟨(some 16), .load none (T 15), (some (11, true))⟩,
 ⟨(some 17), .bin .eql (T 16) (C (0)), (some (11, true))⟩,
 ⟨(some 18), .pick (T 11) (T 17) (.const (.bool false)), none⟩])
 (.cond (T 18)
 .skip
 (.exit 0)))
 (.block 1
 (.reg [⟨(some 19), .mv (T 5), none⟩,
 ⟨(some 20), .bin .sub (T 19) (C (1)), none⟩,
 ⟨(some 5), .mv (T 20), none⟩])))))
 (.seq (.reg [⟨(some 21), .mv (T 0), none⟩,
 ⟨(some 22), .mv (T 5), none⟩,
 ⟨(some 23), .sl none (T 21) none (some (T 22)), none⟩,
 ⟨(some 4), .mv (T 23), none⟩])
 .ret))))
theorem e_deflate_cut : slimC Tryd.prog 24 (Tryd.f82.body.getD .skip) = s_deflate_cut := by kernel_rfl
theorem r_deflate_cut : slimRes Tryd.prog Tryd.f82 = some [.tmp 4] := by kernel_rfl
def s_deflate_tellsOf : SCode :=
 (.seq (.reg [⟨(some 2), .mv (.const (.slice none 0 0)), none⟩])
 (.seq (.reg [⟨(some 3), .mv (.const (.slice none 0 0)), none⟩])
 (.seq (.seq (.reg [⟨(some 4), .mv (C (0)), none⟩])
 (.block 0
 (.loop
 (.seq (.seq (.reg [⟨(some 7), .mv (T 4), none⟩,
 ⟨(some 8), .mv (T 0), none⟩,
 ⟨(some 9), .len false (T 8), none⟩,
 ⟨(some 10), .bin .lss (T 7) (T 9), none⟩])
 (.cond (T 10)
 .skip
 (.exit 0)))
 (.block 1
 (.seq (.reg [⟨(some 12), .mv (T 0), none⟩,
 ⟨(some 13), .mv (T 4), none⟩,
 ⟨(some 14), .call true n_deflate_tellAt [(T 12), (T 13)], none⟩,
 ⟨(some 11), .mv (T 14), none⟩,
 ⟨(some 15), .ext (T 11) 0, none⟩,
 ⟨(some 16), .ext (T 11) 1, none⟩,
 ⟨(some 5), .alloc [(.int .i64 (0)), (.int .i64 (0)), (.int .i64 (0))], none⟩,
 ⟨none, .store (some 3) (T 5) (T 15), none⟩,
 ⟨(some 6), .mv (T 16), none⟩])
 (.seq (.reg [⟨(some 17), .mv (T 3), none⟩,
 ⟨(some 18), .load (some 3) (T 5), none⟩,
 ⟨(some 19), .bslice (some 3) [(T 18)], none⟩,
 ⟨(some 20), .app (some 3) 24 (T 17) (T 19), none⟩,
 ⟨(some 3), .mv (T 20), none⟩])
 (.reg [⟨(some 21), .mv (T 4), none⟩,
 ⟨(some 22), .mv (T 6), none⟩,
 ⟨(some 23), .bin .add (T 21) (T 22), none⟩,
 ⟨(some 4), .mv (T 23), none⟩]))))))))
 (.seq (.reg [⟨(some 24), .mv (T 3), none⟩,
 ⟨(some 2), .mv (T 24), none⟩])
 .ret))))
theorem e_deflate_tellsOf : slimC Tryd.prog 25 (Tryd.f83.body.getD .skip) = s_deflate_tellsOf := by kernel_rfl
theorem r_deflate_tellsOf : slimRes Tryd.prog Tryd.f83 = some [.tmp 2] := by kernel_rfl
def s_deflate_bestTeller : SCode :=
 (.seq (.reg [⟨(some 2), .alloc [(.slice none 0 0), (.slice none 0 0)], none⟩])
 (.seq (.reg [⟨(some 6), .mks none 8 [(.int .i64 (0))] (C (19)) (C (19)), none⟩,
 ⟨(some 3), .mv (T 6), none⟩])
 (.seq (.seq (.reg [⟨(some 7), .mv (T 0), none⟩,
 ⟨(some 8), .len false (T 7), none⟩,
 ⟨(some 9), .mv (C (0)), none⟩])
 (.block 0
 (.loop
 (.seq (.reg [⟨(some 10), .bin .lss (T 9) (T 8), none⟩])
 (.seq (.cond (T 10)
 .skip
 (.exit 0))
 (.seq (.block 1
 (.seq (.reg [⟨(some 11), .iaddr (some 3) (T 7) (T 9), none⟩,
 ⟨(some 12), .load (some 3) (T 11), none⟩,
 ⟨(some 5), .alloc [(.int .i64 (0)), (.int .i64 (0)), (.int .i64 (0))], none⟩,
 ⟨none, .store (some 3) (T 5) (T 12), none⟩])
 (.reg [⟨(some 13), .mv (T 3), none⟩,
 ⟨(some 14), .faddr 0 (T 5), none⟩,
 ⟨(some 15), .load none (T 14), none⟩,
 ⟨(some 16), .iaddr none (T 13) (T 15), none⟩,
 ⟨(some 17), .load none (T 16), none⟩,
 ⟨(some 18), .bin .add (T 17) (C (1)), none⟩,
 ⟨(some 19), .iaddr none (T 13) (T 15), none⟩,
 ⟨none, .store none (T 19) (T 18), none⟩])))
 (.reg [⟨(some 20), .bin .add (T 9) (C (1)), none⟩,
 ⟨(some 9), .mv (T 20), none⟩])))))))
 (.seq (.reg [⟨(some 21), .mv (T 3), none⟩,
 ⟨(some 22), .call true n_deflate_bestCode [(T 21), (C (7))], none⟩,
 ⟨none, .store (some 2) (T 2) (T 22), none⟩])
 .ret))))
theorem e_deflate_bestTeller : slimC Tryd.prog 23 (Tryd.f84.body.getD .skip) = s_deflate_bestTeller := by kernel_rfl
theorem r_deflate_bestTeller : slimRes Tryd.prog Tryd.f84 = some [.cell 2 (some 2)] := by kernel_rfl
def s_huff_Check : SCode :=
 (.seq (.reg [⟨(some 2), .mv (C (0)), none⟩])
 (.seq (.seq (.reg [⟨(some 5), .mv (T 0), none⟩,
 ⟨(some 6), .len false (T 5), none⟩,
 ⟨(some 7), .bin .gtr (T 6) (C (320)), none⟩])
 (.cond (T 7)
 (.seq (.reg [⟨(some 2), .mv (C (4)), none⟩])
 .ret)
 .skip))
 (.seq (.seq (.reg [⟨(some 8), .mv (T 0), none⟩,
 ⟨(some 9), .len false (T 8), none⟩,
 ⟨(some 10), .mv (C (0)), none⟩])
 (.block 0
 (.loop
 (.seq (.reg [⟨(some 11), .bin .lss (T 10) (T 9), none⟩])
 (.seq (.cond (T 11)
 .skip
 (.exit 0))
 (.seq (.block 1
 (.seq (.reg [⟨(some 12), .iaddr none (T 8) (T 10), none⟩,
 ⟨(some 13), .load none (T 12), none⟩,
 ⟨(some 4), .mv (T 13), none⟩])
 (.seq (.reg [⟨(some 14), .mv (T 4), none⟩,
 ⟨(some 15), .bin .lss (T 14) (C (0)), none⟩,
 ⟨(some 16), .mv (T 15), none⟩,
 ⟨(some 17), .mv (T 4), (some (16, false))⟩,
 ⟨(some 18), .bin .gtr (T 17) (C (15)), (some (16, false))⟩,
 ⟨(some 19), .pick (T 16) (.const (.bool true)) (T 18), none⟩])
 (.cond (T 19)
 (.seq (.reg [⟨(some 2), .mv (C (1)), none⟩])
 .ret)
 .skip))))
 (.reg [⟨(some 20), .bin .add (T 10) (C (1)), none⟩,
 ⟨(some 10), .mv (T 20), none⟩])))))))
 (.seq (.seq (.reg [⟨(some 21), .mv (T 0), none⟩,
 ⟨(some 22), .call true n_huff_taken [(T 21)], none⟩,
 ⟨(some 23), .bin .gtr (T 22) (C (32768)), none⟩])
 (.cond (T 23)
 (.seq (.reg [⟨(some 2), .mv (C (3)), none⟩])
 .ret)
 .skip))
 (.seq (.reg [⟨(some 2), .mv (C (0)), none⟩])
 .ret)))))
theorem e_huff_Check : slimC Tryd.prog 24 (Tryd.f85.body.getD .skip) = s_huff_Check := by kernel_rfl
theorem r_huff_Check : slimRes Tryd.prog Tryd.f85 = some [.tmp 2] := by kernel_rfl
def s_huff_firstRows : SCode :=
 (.seq (.reg [⟨(some 2), .alloc (List.replicate 16 (.int .i64 (0))), none⟩])
 (.seq (.reg [⟨(some 3), .alloc (List.replicate 16 (.int .i64 (0))), none⟩])
 (.seq (.seq (.reg [⟨(some 8), .mv (T 0), none⟩,
 ⟨(some 9), .len false (T 8), none⟩,
 ⟨(some 10), .mv (C (0)), none⟩])
 (.block 0
 (.loop
 (.seq (.reg [⟨(some 11), .bin .lss (T 10) (T 9), none⟩])
 (.seq (.cond (T 11)
 .skip
 (.exit 0))
 (.seq (.block 1
 (.seq (.reg [⟨(some 12), .iaddr none (T 8) (T 10), none⟩,
 ⟨(some 13), .load none (T 12), none⟩,
 ⟨(some 5), .mv (T 13), none⟩])
 (.reg [⟨(some 14), .mv (T 5), none⟩,
 ⟨(some 15), .iaddrA 16 none (T 3) (T 14), none⟩,
 ⟨(some 16), .load none (T 15), none⟩,
 ⟨(some 17), .bin .add (T 16) (C (1)), none⟩,
 ⟨(some 18), .iaddrA 16 none (T 3) (T 14), none⟩,
 ⟨none, .store none (T 18) (T 17), none⟩])))
 (.reg [⟨(some 19), .bin .add (T 10) (C (1)), none⟩,
 ⟨(some 10), .mv (T 19), none⟩])))))))
 (.seq (.reg [⟨(some 20), .iaddrA 16 none (T 3) (C (0)), none⟩,
 ⟨none, .store none (T 20) (C (0)), none⟩])
 (.seq (.reg [⟨(some 6), .alloc (List.replicate 16 (.int .i64 (0))), none⟩])
 (.seq (.seq (.reg [⟨(some 21), .mv (C (0)), none⟩])
 (.block 2
 (.loop
 (.seq (.reg [⟨(some 22), .bin .lss (T 21) (C (15)), none⟩])
 (.seq (.cond (T 22)
 .skip
 (.exit 2))
 (.seq (.block 3
 (.seq (.reg [⟨(some 23), .mv (T 21), none⟩,
 ⟨(some 7), .mv (T 23), none⟩])
 (.reg [⟨(some 24), .mv (T 7), none⟩,
 ⟨(some 25), .bin .add (T 24) (C (1)), none⟩,
 ⟨(some 26), .mv (T 7), none⟩,
 ⟨(some 27), .iaddrA 16 none (T 6) (T 26), none⟩,
 ⟨(some 28), .load none (T 27), none⟩,
 ⟨(some 29), .mv (T 7), none⟩,
 ⟨(some 30), .iaddrA 16 none (T 3) (T 29), none⟩,
 ⟨(some 31), .load none (T 30), none⟩,
 ⟨(some 32), .bin .add (T 28) (T 31), none⟩,
 ⟨(some 33), .bin .shl (T 32) (.const (.int .u64 (1))), none⟩,
 ⟨(some 34), .iaddrA 16 none (T 6) (T 25), none⟩,
 ⟨none, .store none (T 34) (T 33), none⟩])))
 (.reg [⟨(some 35), .bin .add (T 21) (C (1)), none⟩,
 ⟨(some 21), .mv (T 35), none⟩])))))))
 (.seq (.reg [⟨(some 36), .load (some 16) (T 6), none⟩,
 ⟨none, .store (some 16) (T 2) (T 36), none⟩])
 .ret)))))))
theorem e_huff_firstRows : slimC Tryd.prog 37 (Tryd.f86.body.getD .skip) = s_huff_firstRows := by kernel_rfl
theorem r_huff_firstRows : slimRes Tryd.prog Tryd.f86 = some [.cell 2 (some 16)] := by kernel_rfl
def s_huff_taken : SCode :=
 (.seq (.reg [⟨(some 2), .mv (C (0)), none⟩])
 (.seq (.reg [⟨(some 3), .mv (C (0)), none⟩])
 (.seq (.seq (.reg [⟨(some 6), .mv (T 0), none⟩,
 ⟨(some 7), .len false (T 6), none⟩,
 ⟨(some 8), .mv (C (0)), none⟩])
 (.block 0
 (.loop
 (.seq (.reg [⟨(some 9), .bin .lss (T 8) (T 7), none⟩])
 (.seq (.cond (T 9)
 .skip
 (.exit 0))
 (.seq (.block 1
 (.seq (.reg [⟨(some 10), .iaddr none (T 6) (T 8), none⟩,
 ⟨(some 11), .load none (T 10), none⟩,
 ⟨(some 5), .mv (T 11), none⟩])
 (.seq (.reg [⟨(some 12), .mv (T 5), none⟩,
 ⟨(some 13), .bin .gtr (T 12) (C (0)), none⟩])
 (.cond (T 13)
 (.reg [⟨(some 14), .mv (T 3), none⟩,
 ⟨(some 15), .mv (T 5), none⟩,
 ⟨(some 16), .bin .shr (C (32768)) (T 15), none⟩,
 ⟨(some 17), .bin .add (T 14) (T 16), none⟩,
 ⟨(some 3), .mv (T 17), none⟩])
 .skip))))
 (.reg [⟨(some 18), .bin .add (T 8) (C (1)), none⟩,
 ⟨(some 8), .mv (T 18), none⟩])))))))
 (.seq (.reg [⟨(some 19), .mv (T 3), none⟩,
 ⟨(some 2), .mv (T 19), none⟩])
 .ret))))
theorem e_huff_taken : slimC Tryd.prog 20 (Tryd.f87.body.getD .skip) = s_huff_taken := by kernel_rfl
theorem r_huff_taken : slimRes Tryd.prog Tryd.f87 = some [.tmp 2] := by kernel_rfl
def s_slices_Growintint : SCode :=
 (.seq (.reg [⟨(some 4), .mv (.const (.slice none 0 0)), none⟩])
 (.seq (.seq (.reg [⟨(some 5), .mv (T 1), none⟩,
 ⟨(some 6), .bin .lss (T 5) (C (0)), none⟩])
 (.cond (T 6)
 (.reg [⟨(some 7), .no, none⟩,
 ⟨none, .no, none⟩])
 .skip))
 (.seq (.seq (.reg [⟨(some 8), .mv (T 1), none⟩,
 ⟨(some 9), .mv (T 0), none⟩,
 ⟨(some 10), .capn (T 9), none⟩,
 ⟨(some 11), .mv (T 0), none⟩,
 ⟨(some 12), .len false (T 11), none⟩,
 ⟨(some 13), .bin .sub (T 10) (T 12), none⟩,
 ⟨(some 14), .bin .sub (T 8) (T 13), none⟩,
 ⟨(some 1), .mv (T 14), none⟩])
 (.seq (.reg [⟨(some 15), .mv (T 1), none⟩,
 ⟨(some 16), .bin .gtr (T 15) (C (0)), none⟩])
 (.cond (T 16)
 (.reg [⟨(some 17), .mv (T 0), none⟩,
 ⟨(some 18), .mv (T 0), none⟩,
 ⟨(some 19), .capn (T 18), none⟩,
 ⟨(some 20), .sl none (T 17) none (some (T 19)), none⟩,
 ⟨(some 21), .mv (T 1), none⟩,
 ⟨(some 22), .appz none 8 [(.int .i64 (0))] (T 20) (T 21), none⟩,
 ⟨(some 23), .mv (T 0), none⟩,
 ⟨(some 24), .len false (T 23), none⟩,
 ⟨(some 25), .sl none (T 22) none (some (T 24)), none⟩,
 ⟨(some 0), .mv (T 25), none⟩])
 .skip)))
 (.seq (.reg [⟨(some 26), .mv (T 0), none⟩,
 ⟨(some 4), .mv (T 26), none⟩])
 .ret))))
theorem e_slices_Growintint : slimC Tryd.prog 27 (Tryd.f88.body.getD .skip) = s_slices_Growintint := by kernel_rfl
theorem r_slices_Growintint : slimRes Tryd.prog Tryd.f88 = some [.tmp 4] := by kernel_rfl
def s_bits_Mul : SCode :=
 (.seq (.reg [⟨(some 4), .mv (.const (.int .u64 (0))), none⟩,
 ⟨(some 5), .mv (.const (.int .u64 (0))), none⟩])
 (.seq (.cond (.const (.bool false))
 (.seq (.reg [⟨(some 11), .mv (T 0), none⟩,
 ⟨(some 12), .ci .u32 (T 11), none⟩,
 ⟨(some 13), .mv (T 1), none⟩,
 ⟨(some 14), .ci .u32 (T 13), none⟩,
 ⟨(some 15), .call true n_bits_Mul32 [(T 12), (T 14)], none⟩,
 ⟨(some 10), .mv (T 15), none⟩,
 ⟨(some 16), .ext (T 10) 0, none⟩,
 ⟨(some 17), .ext (T 10) 1, none⟩,
 ⟨(some 6), .mv (T 16), none⟩,
 ⟨(some 7), .mv (T 17), none⟩])
 (.seq (.reg [⟨(some 18), .mv (T 6), none⟩,
 ⟨(some 19), .ci .u64 (T 18), none⟩,
 ⟨(some 20), .mv (T 7), none⟩,
 ⟨(some 21), .ci .u64 (T 20), none⟩,
 ⟨(some 4), .mv (T 19), none⟩,
 ⟨(some 5), .mv (T 21), none⟩])
 .ret))
 .skip)
 (.seq (.reg [⟨(some 23), .mv (T 0), none⟩,
 ⟨(some 24), .mv (T 1), none⟩,
 ⟨(some 25), .call true n_bits_Mul64 [(T 23), (T 24)], none⟩,
 ⟨(some 22), .mv (T 25), none⟩,
 ⟨(some 26), .ext (T 22) 0, none⟩,
 ⟨(some 27), .ext (T 22) 1, none⟩,
 ⟨(some 8), .mv (T 26), none⟩,
 ⟨(some 9), .mv (T 27), none⟩])
 (.seq (.reg [⟨(some 28), .mv (T 8), none⟩,
 ⟨(some 29), .mv (T 9), none⟩,
 ⟨(some 4), .mv (T 28), none⟩,
 ⟨(some 5), .mv (T 29), none⟩])
 .ret))))
theorem e_bits_Mul : slimC Tryd.prog 30 (Tryd.f89.body.getD .skip) = s_bits_Mul := by kernel_rfl
theorem r_bits_Mul : slimRes Tryd.prog Tryd.f89 = some [.tmp 4, .tmp 5] := by kernel_rfl
def s_huff_Writer_bit : SCode :=
 (.seq (.seq (.reg [⟨(some 4), .mv (T 0), none⟩,
 ⟨(some 5), .nilc (T 4), none⟩,
 ⟨(some 6), .faddr 1 (T 5), none⟩,
 ⟨(some 7), .load none (T 6), none⟩,
 ⟨(some 8), .bin .rem (T 7) (C (8)), none⟩,
 ⟨(some 9), .bin .eql (T 8) (C (0)), none⟩])
 (.cond (T 9)
 (.reg [⟨(some 10), .mv (T 0), none⟩,
 ⟨(some 11), .mv (T 0), none⟩,
 ⟨(some 12), .nilc (T 11), none⟩,
 ⟨(some 13), .faddr 0 (T 12), none⟩,
 ⟨(some 14), .load none (T 13), none⟩,
 ⟨(some 15), .bslice none [(.const (.int .u8 (0)))], none⟩,
 ⟨(some 16), .app none 1 (T 14) (T 15), none⟩,
 ⟨(some 17), .nilc (T 10), none⟩,
 ⟨(some 18), .faddr 0 (T 17), none⟩,
 ⟨none, .store none (T 18) (T 16), none⟩])
 .skip))
 (.seq (.reg [⟨(some 19), .mv (T 0), none⟩,
 ⟨(some 20), .nilc (T 19), none⟩,
 ⟨(some 21), .faddr 0 (T 20), none⟩,
 ⟨(some 22), .load none (T 21), none⟩,
 ⟨(some 23), .mv (T 0), none⟩,
 ⟨(some 24), .nilc (T 23), none⟩,
 ⟨(some 25), .faddr 1 (T 24), none⟩,
 ⟨(some 26), .load none (T 25), none⟩,
 ⟨(some 27), .bin .quo (T 26) (C (8)), none⟩,
 ⟨(some 28), .iaddr none (T 22) (T 27), none⟩,
 ⟨(some 29), .load none (T 28), none⟩,
 ⟨(some 30), .mv (T 1), none⟩,
 ⟨(some 31), .mv (T 0), none⟩,
 ⟨(some 32), .nilc (T 31), none⟩,
 ⟨(some 33), .faddr 1 (T 32), none⟩,
 ⟨(some 34), .load none (T 33), none⟩,
 ⟨(some 35), .bin .rem (T 34) (C (8)), none⟩,
 ⟨(some 36), .bin .shl (T 30) (T 35), none⟩,
 ⟨(some 37), .ci .u8 (T 36), none⟩,
 ⟨(some 38), .bin .or (T 29) (T 37), none⟩,
 ⟨(some 39), .iaddr none (T 22) (T 27), none⟩,
 ⟨none, .store none (T 39) (T 38), none⟩])
 (.reg [⟨(some 40), .mv (T 0), none⟩,
 ⟨(some 41), .nilc (T 40), none⟩,
 ⟨(some 42), .faddr 1 (T 41), none⟩,
 ⟨(some 43), .load none (T 42), none⟩,
 ⟨(some 44), .bin .add (T 43) (C (1)), none⟩,
 ⟨(some 45), .nilc (T 40), none⟩,
 ⟨(some 46), .faddr 1 (T 45), none⟩,
 ⟨none, .store none (T 46) (T 44), none⟩])))
theorem e_huff_Writer_bit : slimC Tryd.prog 47 (Tryd.f98.body.getD .skip) = s_huff_Writer_bit := by kernel_rfl
theorem r_huff_Writer_bit : slimRes Tryd.prog Tryd.f98 = some [] := by kernel_rfl
def s_huff_Writer_Code : SCode :=
 (.seq (.seq (.reg [⟨(some 7), .mv (T 2), none⟩,
 ⟨(some 8), .bin .lss (T 7) (C (0)), none⟩,
 ⟨(some 9), .mv (T 8), none⟩,
 ⟨(some 10), .mv (T 2), (some (9, false))⟩,
 ⟨(some 11), .bin .gtr (T 10) (C (15)), (some (9, false))⟩,
 ⟨(some 12), .pick (T 9) (.const (.bool true)) (T 11), none⟩])
 (.cond (T 12)
 .ret
 .skip))
 (.seq (.reg [⟨(some 13), .mv (T 2), none⟩,
 ⟨(some 14), .mv (C (0)), none⟩])
 (.block 0
 (.loop
 (.seq (.reg [⟨(some 15), .bin .lss (T 14) (T 13), none⟩])
 (.seq (.cond (T 15)
 .skip
 (.exit 0))
 (.seq (.block 1
 (.seq (.reg [⟨(some 16), .mv (T 14), none⟩,
 ⟨(some 6), .mv (T 16), none⟩])
 (.reg [⟨(some 17), .mv (T 0), none⟩,
 ⟨(some 18), .mv (T 1), none⟩,
 ⟨(some 19), .mv (T 2), none⟩,
 ⟨(some 20), .bin .sub (T 19) (C (1)), none⟩,
 ⟨(some 21), .mv (T 6), none⟩,
 ⟨(some 22), .bin .sub (T 20) (T 21), none⟩,
 ⟨(some 23), .bin .shr (T 18) (T 22), none⟩,
 ⟨(some 24), .bin .and (T 23) (C (1)), none⟩,
 ⟨(some 25), .call true n_huff_Writer_bit [(T 17), (T 24)], none⟩])))
 (.reg [⟨(some 26), .bin .add (T 14) (C (1)), none⟩,
 ⟨(some 14), .mv (T 26), none⟩]))))))))
theorem e_huff_Writer_Code : slimC Tryd.prog 27 (Tryd.f99.body.getD .skip) = s_huff_Writer_Code := by kernel_rfl
theorem r_huff_Writer_Code : slimRes Tryd.prog Tryd.f99 = some [] := by kernel_rfl
def s_deflate_symbolOf : SCode :=
 (.seq (.reg [⟨(some 4), .alloc [(.int .i64 (0)), (.int .i64 (0)), (.int .i64 (0))], none⟩])
 (.seq (.reg [⟨(some 6), .mv (T 0), none⟩,
 ⟨(some 7), .ci .u64 (T 6), none⟩,
 ⟨(some 8), .call true n_bits_Len [(T 7)], none⟩,
 ⟨(some 9), .bin .sub (T 8) (C (1)), none⟩,
 ⟨(some 10), .mv (T 1), none⟩,
 ⟨(some 11), .bin .sub (T 9) (T 10), none⟩,
 ⟨(some 12), .mm true (C (0)) [(T 11)], none⟩,
 ⟨(some 5), .mv (T 12), none⟩])
 (.seq (.reg [⟨(some 13), .mv (T 5), none⟩,
 ⟨(some 14), .mv (T 1), none⟩,
 ⟨(some 15), .bin .shl (T 13) (T 14), none⟩,
 ⟨(some 16), .mv (T 0), none⟩,
 ⟨(some 17), .mv (T 5), none⟩,
 ⟨(some 18), .bin .shr (T 16) (T 17), none⟩,
 ⟨(some 19), .bin .add (T 15) (T 18), none⟩,
 ⟨(some 20), .mv (T 0), none⟩,
 ⟨(some 21), .mv (T 5), none⟩,
 ⟨(some 22), .build [(.int .i64 (0)), (.int .i64 (0)), (.int .i64 (0))] [(0, 1, (T 19)), (1, 1, (T 20)), (2, 1, (T 21))], none⟩,
 ⟨none, .store (some 3) (T 4) (T 22), none⟩])
 .ret)))
theorem e_deflate_symbolOf : slimC Tryd.prog 23 (Tryd.f100.body.getD .skip) = s_deflate_symbolOf := by kernel_rfl
theorem r_deflate_symbolOf : slimRes Tryd.prog Tryd.f100 = some [.cell 4 (some 3)] := by kernel_rfl
def s_huff_Codes : SCode :=
 (.seq (.reg [⟨(some 2), .mv (.const (.slice none 0 0)), none⟩,
 ⟨(some 3), .mv (C (0)), none⟩])
 (.seq (.seq (.reg [⟨(some 9), .mv (T 0), none⟩,
 ⟨(some 10), .call true n_huff_Check [(T 9)], none⟩,
 ⟨(some 4), .mv (T 10), none⟩])
 (.seq (.reg [⟨(some 11), .mv (T 4), none⟩,
 ⟨(some 12), .bin .neq (T 11) (C (0)), none⟩])
 (.cond (T 12)
 (.seq (.reg [⟨(some 13), .mv (T 4), none⟩,
 ⟨(some 2), .mv (.const (.slice none 0 0)), none⟩,
 ⟨(some 3), .mv (T 13), none⟩])
 .ret)
 .skip)))
 (.seq (.reg [⟨(some 14), .mv (T 0), none⟩,
 ⟨(some 15), .call true n_huff_firstRows [(T 14)], none⟩,
 ⟨(some 5), .alloc (List.replicate 16 (.int .i64 (0))), none⟩,
 ⟨none, .store (some 16) (T 5) (T 15), none⟩])
 (.seq (.reg [⟨(some 16), .mv (T 0), none⟩,
 ⟨(some 17), .len false (T 16), none⟩,
 ⟨(some 18), .mks none 8 [(.int .i64 (0))] (T 17) (T 17), none⟩,
 ⟨(some 6), .mv (T 18), none⟩])
 (.seq (.seq (.reg [⟨(some 19), .mv (T 0), none⟩,
 ⟨(some 20), .len false (T 19), none⟩,
 ⟨(some 21), .mv (C (0)), none⟩])
 (.block 0
 (.loop
 (.seq (.reg [⟨(some 22), .bin .lss (T 21) (T 20), none⟩])
 (.seq (.cond (T 22)
 .skip
 (.exit 0))
 (.seq (.block 1
 (.seq (.reg [⟨(some 23), .mv (T 21), none⟩,
 ⟨(some 24), .iaddr none (T 19) (T 21), none⟩,
 ⟨(some 25), .load none (T 24), none⟩,
 ⟨(some 7), .mv (T 23), none⟩,
 ⟨(some 8), .mv (T 25), none⟩])
 (.seq (.reg [⟨(some 26), .mv (T 8), none⟩,
 ⟨(some 27), .bin .gtr (T 26) (C (0)), none⟩])
 (.cond (T 27)
 (.seq (.reg [⟨(some 28), .mv (T 6), none⟩,
 ⟨(some 29), .mv (T 7), none⟩,
 ⟨(some 30), .mv (T 8), none⟩,
 ⟨(some 31), .iaddrA 16 none (T 5) (T 30), none⟩,
 ⟨(some 32), .load none (T 31), none⟩,
 ⟨(some 33), .iaddr none (T 28) (T 29), none⟩,
 ⟨none, .store none (T 33) (T 32), none⟩])
 (.reg [⟨(some 34), .mv (T 8), none⟩,
 ⟨(some 35), .iaddrA 16 none (T 5) (T 34), none⟩,
 ⟨(some 36), .load none (T 35), none⟩,
 ⟨(some 37), .bin .add (T 36) (C (1)), none⟩,
 ⟨(some 38), .iaddrA 16 none (T 5) (T 34), none⟩,
 ⟨none, .store none (T 38) (T 37), none⟩]))
 .skip))))
 (.reg [⟨(some 39), .bin .add (T 21) (C (1)), none⟩,
 ⟨(some 21), .mv (T 39), none⟩])))))))
 (.seq (.reg [⟨(some 40), .mv (T 6), none⟩,
 ⟨(some 2), .mv (T 40), none⟩,
 ⟨(some 3), .mv (C (0)), none⟩])
 .ret))))))
theorem e_huff_Codes : slimC Tryd.prog 41 (Tryd.f101.body.getD .skip) = s_huff_Codes := by kernel_rfl
theorem r_huff_Codes : slimRes Tryd.prog Tryd.f101 = some [.tmp 2, .tmp 3] := by kernel_rfl
def s_deflate_finder_lastLike : SCode :=
 (.seq (.reg [⟨(some 4), .mv (C (0)), none⟩])
 (.seq (.seq (.reg [⟨(some 10), .mv (T 0), none⟩,
 ⟨(some 11), .mv (T 1), none⟩,
 ⟨(some 12), .call true n_deflate_finder_start [(T 10), (T 11)], none⟩,
 ⟨(some 9), .mv (T 12), none⟩,
 ⟨(some 13), .ext (T 9) 0, none⟩,
 ⟨(some 14), .ext (T 9) 1, none⟩,
 ⟨(some 5), .alloc [(.int .u8 (0)), (.int .u8 (0)), (.int .u8 (0))], none⟩,
 ⟨none, .store (some 3) (T 5) (T 13), none⟩,
 ⟨(some 6), .mv (T 14), none⟩])
 (.seq (.reg [⟨(some 15), .mv (T 6), none⟩])
 (.cond (T 15)
 (.seq (.reg [⟨(some 17), .mv (T 0), none⟩,
 ⟨(some 18), .nilc (T 17), none⟩,
 ⟨(some 19), .faddr 1 (T 18), none⟩,
 ⟨(some 20), .load none (T 19), none⟩,
 ⟨(some 21), .load (some 3) (T 5), none⟩,
 ⟨(some 22), .mget true (.agg #[(.int .u8 (0)), (.int .u8 (0)), (.int .u8 (0))]) (.int .i64 (0)) (T 20) (T 21), none⟩,
 ⟨(some 16), .mv (T 22), none⟩,
 ⟨(some 23), .ext (T 16) 0, none⟩,
 ⟨(some 24), .ext (T 16) 1, none⟩,
 ⟨(some 7), .mv (T 23), none⟩,
 ⟨(some 8), .mv (T 24), none⟩])
 (.seq (.reg [⟨(some 25), .mv (T 8), none⟩])
 (.cond (T 25)
 (.seq (.reg [⟨(some 26), .mv (T 7), none⟩,
 ⟨(some 4), .mv (T 26), none⟩])
 .ret)
 .skip)))
 .skip)))
 (.seq (.reg [⟨(some 4), .mv (C (-32769)), none⟩])
 .ret)))
theorem e_deflate_finder_lastLike : slimC Tryd.prog 27 (Tryd.f102.body.getD .skip) = s_deflate_finder_lastLike := by kernel_rfl
theorem r_deflate_finder_lastLike : slimRes Tryd.prog Tryd.f102 = some [.tmp 4] := by kernel_rfl
def s_deflate_finder_alike : SCode :=
 (.seq (.reg [⟨(some 8), .mv (C (0)), none⟩])
 (.seq (.reg [⟨(some 9), .mv (C (0)), none⟩])
 (.seq (.block 0
 (.loop
 (.seq (.seq (.reg [⟨(some 10), .mv (T 9), none⟩,
 ⟨(some 11), .mv (T 3), none⟩,
 ⟨(some 12), .bin .lss (T 10) (T 11), none⟩,
 ⟨(some 13), .mv (T 12), none⟩,
 ⟨(some 14), .mv (T 0), (some (13, true))⟩,
 ⟨(some 15), .nilc (T 14), (some (13, true))⟩,
 ⟨(some 16), .faddr 0 (T 15), (some (13, true))⟩,
 ⟨(some 17), .load none (T 16), (some (13, true))⟩,
 ⟨(some 18), .mv (T 1), (some (13, true))⟩,
 ⟨(some 19), .mv (T 9), (some (13, true))⟩,
 ⟨(some 20), .bin .add (T 18) (T 19), (some (13, true))⟩,
 ⟨(some 21), .iaddr none (T 17) (T 20), (some (13, true))⟩,
 ⟨(some 22), .load none (T 21), (some (13, true))⟩,
 ⟨(some 23), .mv (T 0), (some (13, true))⟩,
 ⟨(some 24), .nilc (T 23), (some (13, true))⟩,
 ⟨(some 25), .faddr 0 (T 24), (some (13, true))⟩,
 ⟨(some 26), .load none (T 25), (some (13, true))⟩,
 ⟨(some 27), .mv (T 2), (some (13, true))⟩,
 ⟨(some 28), .mv (T 9), (some (13, true))⟩,
 ⟨(some 29), .bin .add (T 27) (T 28), (some (13, true))⟩,
 ⟨(some 30), .iaddr none (T 26) (T 29), (some (13, true))⟩,
 ⟨(some 31), .load none (T 30), (some (13, true))⟩,
 ⟨(some 32), .bin .eql (T 22) (T 31), (some (13, true))⟩,
 ⟨(some 33), .pick (T 13) (T 32) (.const (.bool false)), none⟩])
 (.cond (T 33)
 .skip
 (.exit 0)))
 (.block 1
 (.reg [⟨(some 34), .mv (T 9), none⟩,
 ⟨(some 35), .bin .add (T 34) (C (1)), none⟩,
 ⟨(some 9), .mv (T 35), none⟩])))))
 (.seq (.reg [⟨(some 36), .mv (T 9), none⟩,
 ⟨(some 8), .mv (T 36), none⟩])
 .ret))))
theorem e_deflate_finder_alike : slimC Tryd.prog 37 (Tryd.f103.body.getD .skip) = s_deflate_finder_alike := by kernel_rfl
theorem r_deflate_finder_alike : slimRes Tryd.prog Tryd.f103 = some [.tmp 8] := by kernel_rfl
def s_deflate_finder_start : SCode :=
 (.seq (.reg [⟨(some 4), .alloc [(.int .u8 (0)), (.int .u8 (0)), (.int .u8 (0))], none⟩,
 ⟨(some 5), .mv (.const (.bool false)), none⟩])
 (.seq (.reg [⟨(some 6), .alloc [(.int .u8 (0)), (.int .u8 (0)), (.int .u8 (0))], none⟩])
 (.seq (.seq (.reg [⟨(some 7), .mv (T 1), none⟩,
 ⟨(some 8), .bin .lss (T 7) (C (0)), none⟩,
 ⟨(some 9), .mv (T 8), none⟩,
 ⟨(some 10), .mv (T 0), (some (9, false))⟩,
 ⟨(some 11), .nilc (T 10), (some (9, false))⟩,
 ⟨(some 12), .faddr 0 (T 11), (some (9, false))⟩,
 ⟨(some 13), .load none (T 12), (some (9, false))⟩,
 ⟨(some 14), .len false (T 13), (some (9, false))⟩,
 ⟨(some 15), .mv (T 1), (some (9, false))⟩,
 ⟨(some 16), .bin .sub (T 14) (T 15), (some (9, false))⟩,
 ⟨(some 17), .bin .lss (T 16) (C (3)), (some (9, false))⟩,
 ⟨(some 18), .pick (T 9) (.const (.bool true)) (T 17), none⟩])
 (.cond (T 18)
 (.seq (.reg [⟨(some 19), .load (some 3) (T 6), none⟩,
 ⟨none, .store (some 3) (T 4) (T 19), none⟩,
 ⟨(some 5), .mv (.const (.bool false)), none⟩])
 .ret)
 .skip))
 (.seq (.reg [⟨(some 20), .sla 3 none (T 6) none none, none⟩,
 ⟨(some 21), .mv (T 0), none⟩,
 ⟨(some 22), .nilc (T 21), none⟩,
 ⟨(some 23), .faddr 0 (T 22), none⟩,
 ⟨(some 24), .load none (T 23), none⟩,
 ⟨(some 25), .mv (T 1), none⟩,
 ⟨(some 26), .sl none (T 24) (some (T 25)) none, none⟩,
 ⟨(some 27), .copy (T 20) (T 26), none⟩])
 (.seq (.reg [⟨(some 28), .load (some 3) (T 6), none⟩,
 ⟨none, .store (some 3) (T 4) (T 28), none⟩,
 ⟨(some 5), .mv (.const (.bool true)), none⟩])
 .ret)))))
theorem e_deflate_finder_start : slimC Tryd.prog 29 (Tryd.f104.body.getD .skip) = s_deflate_finder_start := by kernel_rfl
theorem r_deflate_finder_start : slimRes Tryd.prog Tryd.f104 = some [.cell 4 (some 3), .tmp 5] := by kernel_rfl
def s_huff_Lengths : SCode :=
 (.seq (.reg [⟨(some 4), .mv (.const (.slice none 0 0)), none⟩,
 ⟨(some 5), .mv (C (0)), none⟩])
 (.seq (.seq (.reg [⟨(some 14), .mv (T 1), none⟩,
 ⟨(some 15), .bin .lss (T 14) (C (1)), none⟩,
 ⟨(some 16), .mv (T 15), none⟩,
 ⟨(some 17), .mv (T 1), (some (16, false))⟩,
 ⟨(some 18), .bin .gtr (T 17) (C (15)), (some (16, false))⟩,
 ⟨(some 19), .pick (T 16) (.const (.bool true)) (T 18), none⟩])
 (.cond (T 19)
 (.seq (.reg [⟨(some 4), .mv (.const (.slice none 0 0)), none⟩,
 ⟨(some 5), .mv (C (1)), none⟩])
 .ret)
 .skip))
 (.seq (.seq (.reg [⟨(some 20), .mv (T 0), none⟩,
 ⟨(some 21), .len false (T 20), none⟩,
 ⟨(some 22), .bin .gtr (T 21) (C (320)), none⟩])
 (.cond (T 22)
 (.seq (.reg [⟨(some 4), .mv (.const (.slice none 0 0)), none⟩,
 ⟨(some 5), .mv (C (4)), none⟩])
 .ret)
 .skip))
 (.seq (.reg [⟨(some 6), .mv (.const (.slice none 0 0)), none⟩])
 (.seq (.seq (.reg [⟨(some 23), .mv (T 0), none⟩,
 ⟨(some 24), .len false (T 23), none⟩,
 ⟨(some 25), .mv (C (0)), none⟩])
 (.block 0
 (.loop
 (.seq (.reg [⟨(some 26), .bin .lss (T 25) (T 24), none⟩])
 (.seq (.cond (T 26)
 .skip
 (.exit 0))
 (.seq (.block 1
 (.seq (.reg [⟨(some 27), .mv (T 25), none⟩,
 ⟨(some 28), .iaddr none (T 23) (T 25), none⟩,
 ⟨(some 29), .load none (T 28), none⟩,
 ⟨(some 7), .mv (T 27), none⟩,
 ⟨(some 8), .mv (T 29), none⟩])
 (.seq (.seq (.reg [⟨(some 30), .mv (T 8), none⟩,
 ⟨(some 31), .bin .lss (T 30) (C (0)), none⟩,
 ⟨(some 32), .mv (T 31), none⟩,
 ⟨(some 33), .mv (T 8), (some (32, false))⟩,
 ⟨(some 34), .bin .gtr (T 33) (C (4294967296)), (some (32, false))⟩,
 ⟨(some 35), .pick (T 32) (.const (.bool true)) (T 34), none⟩])
 (.cond (T 35)
 (.seq (.reg [⟨(some 4), .mv (.const (.slice none 0 0)), none⟩,
 ⟨(some 5), .mv (C (1)), none⟩])
 .ret)
 .skip))
 (.seq (.reg [⟨(some 36), .mv (T 8), none⟩,
 ⟨(some 37), .bin .gtr (T 36) (C (0)), none⟩])
 (.cond (T 37)
 (.reg [⟨(some 38), .mv (T 6), none⟩,
 ⟨(some 39), .mv (T 8), none⟩,
 ⟨(some 40), .mv (T 7), none⟩,
 ⟨(some 41), .bslice none [(T 40)], none⟩,
 ⟨(some 42), .build [(.int .i64 (0)), (.slice none 0 0)] [(0, 1, (T 39)), (1, 1, (T 41))], none⟩,
 ⟨(some 43), .bslice (some 2) [(T 42)], none⟩,
 ⟨(some 44), .app (some 2) 32 (T 38) (T 43), none⟩,
 ⟨(some 6), .mv (T 44), none⟩])
 .skip)))))
 (.reg [⟨(some 45), .bin .add (T 25) (C (1)), none⟩,
 ⟨(some 25), .mv (T 45), none⟩])))))))
 (.seq (.seq (.reg [⟨(some 46), .mv (T 6), none⟩,
 ⟨(some 47), .len false (T 46), none⟩,
 ⟨(some 48), .mv (T 1), none⟩,
 ⟨(some 49), .bin .shl (C (1)) (T 48), none⟩,
 ⟨(some 50), .bin .gtr (T 47) (T 49), none⟩])
 (.cond (T 50)
 (.seq (.reg [⟨(some 4), .mv (.const (.slice none 0 0)), none⟩,
 ⟨(some 5), .mv (C (4)), none⟩])
 .ret)
 .skip))
 (.seq (.reg [⟨(some 51), .mv (T 0), none⟩,
 ⟨(some 52), .len false (T 51), none⟩,
 ⟨(some 53), .mks none 8 [(.int .i64 (0))] (T 52) (T 52), none⟩,
 ⟨(some 9), .mv (T 53), none⟩])
 (.seq (.seq (.reg [⟨(some 54), .mv (T 6), none⟩,
 ⟨(some 55), .mv (T 1), none⟩,
 ⟨(some 56), .call true n_huff_cheapest [(T 54), (T 55)], none⟩,
 ⟨(some 57), .len false (T 56), none⟩,
 ⟨(some 58), .mv (C (0)), none⟩])
 (.block 2
 (.loop
 (.seq (.reg [⟨(some 59), .bin .lss (T 58) (T 57), none⟩])
 (.seq (.cond (T 59)
 .skip
 (.exit 2))
 (.seq (.block 3
 (.seq (.reg [⟨(some 60), .iaddr (some 2) (T 56) (T 58), none⟩,
 ⟨(some 61), .load (some 2) (T 60), none⟩,
 ⟨(some 11), .alloc [(.int .i64 (0)), (.slice none 0 0)], none⟩,
 ⟨none, .store (some 2) (T 11) (T 61), none⟩])
 (.seq (.reg [⟨(some 62), .faddr 1 (T 11), none⟩,
 ⟨(some 63), .load none (T 62), none⟩,
 ⟨(some 64), .len false (T 63), none⟩,
 ⟨(some 65), .mv (C (0)), none⟩])
 (.block 4
 (.loop
 (.seq (.reg [⟨(some 66), .bin .lss (T 65) (T 64), none⟩])
 (.seq (.cond (T 66)
 .skip
 (.exit 4))
 (.seq (.block 5
 (.seq (.reg [⟨(some 67), .iaddr none (T 63) (T 65), none⟩,
 ⟨(some 68), .load none (T 67), none⟩,
 ⟨(some 13), .mv (T 68), none⟩])
 (.reg [⟨(some 69), .mv (T 9), none⟩,
 ⟨(some 70), .mv (T 13), none⟩,
 ⟨(some 71), .iaddr none (T 69) (T 70), none⟩,
 ⟨(some 72), .load none (T 71), none⟩,
 ⟨(some 73), .bin .add (T 72) (C (1)), none⟩,
 ⟨(some 74), .iaddr none (T 69) (T 70), none⟩,
 ⟨none, .store none (T 74) (T 73), none⟩])))
 (.reg [⟨(some 75), .bin .add (T 65) (C (1)), none⟩,
 ⟨(some 65), .mv (T 75), none⟩])))))))))
 (.reg [⟨(some 76), .bin .add (T 58) (C (1)), none⟩,
 ⟨(some 58), .mv (T 76), none⟩])))))))
 (.seq (.reg [⟨(some 77), .mv (T 9), none⟩,
 ⟨(some 4), .mv (T 77), none⟩,
 ⟨(some 5), .mv (C (0)), none⟩])
 .ret)))))))))
theorem e_huff_Lengths : slimC Tryd.prog 78 (Tryd.f105.body.getD .skip) = s_huff_Lengths := by kernel_rfl
theorem r_huff_Lengths : slimRes Tryd.prog Tryd.f105 = some [.tmp 4, .tmp 5] := by kernel_rfl
def s_deflate_tellAt : SCode :=
 (.seq (.reg [⟨(some 4), .alloc [(.int .i64 (0)), (.int .i64 (0)), (.int .i64 (0))], none⟩,
 ⟨(some 5), .mv (C (0)), none⟩])
 (.seq (.reg [⟨(some 6), .mv (C (1)), none⟩])
 (.seq (.block 0
 (.loop
 (.seq (.seq (.reg [⟨(some 7), .mv (T 1), none⟩,
 ⟨(some 8), .mv (T 6), none⟩,
 ⟨(some 9), .bin .add (T 7) (T 8), none⟩,
 ⟨(some 10), .mv (T 0), none⟩,
 ⟨(some 11), .len false (T 10), none⟩,
 ⟨(some 12), .bin .lss (T 9) (T 11), none⟩,
 ⟨(some 13), .mv (T 12), none⟩,
 ⟨(some 14), .mv (T 0), (some (13, true))⟩,
 ⟨(some 15), .mv (T 1), (some (13, true))⟩,
 ⟨(some 16), .mv (T 6), (some (13, true))⟩,
 ⟨(some 17), .bin .add (T 15) (T 16), (some (13, true))⟩,
 ⟨(some 18), .iaddr none (T 14) (T 17), (some (13, true))⟩,
 ⟨(some 19), .load none (T 18), (some (13, true))⟩,
 ⟨(some 20), .mv (T 0), (some (13, true))⟩,
 ⟨(some 21), .mv (T 1), (some (13, true))⟩,
 ⟨(some 22), .iaddr none (T 20) (T 21), (some (13, true))⟩,
 ⟨(some 23), .load none (T 22), (some (13, true))⟩,
 ⟨(some 24), .bin .eql (T 19) (T 23), (some (13, true))⟩,
 ⟨(some 25), .pick (T 13) (T 24) (.const (.bool false)), none⟩])
 (.cond (T 25)
 .skip
 (.exit 0)))
 (.block 1
 (.reg [⟨(some 26), .mv (T 6), none⟩,
 ⟨(some 27), .bin .add (T 26) (C (1)), none⟩,
 ⟨(some 6), .mv (T 27), none⟩])))))
 (.seq (.block 2
 (.seq (.reg [⟨(some 29), .mv (T 0), none⟩,
 ⟨(some 30), .mv (T 1), none⟩,
 ⟨(some 31), .iaddr none (T 29) (T 30), none⟩,
 ⟨(some 32), .load none (T 31), none⟩,
 ⟨(some 33), .bin .eql (T 32) (C (0)), none⟩,
 ⟨(some 34), .mv (T 33), none⟩,
 ⟨(some 35), .mv (T 6), (some (34, true))⟩,
 ⟨(some 36), .bin .geq (T 35) (C (11)), (some (34, true))⟩,
 ⟨(some 37), .pick (T 34) (T 36) (.const (.bool false)), none⟩,
 ⟨(some 28), .mv (T 37), none⟩])
 (.cond (T 28)
 (.seq (.reg [⟨(some 38), .mv (T 6), none⟩,
 ⟨(some 39), .mm false (T 38) [(C (138))], none⟩,
 ⟨(some 6), .mv (T 39), none⟩])
 (.seq (.reg [⟨(some 40), .mv (T 6), none⟩,
 ⟨(some 41), .bin .sub (T 40) (C (11)), none⟩,
 ⟨(some 42), .build [(.int .i64 (0)), (.int .i64 (0)), (.int .i64 (0))] [(0, 1, (C (18))), (1, 1, (T 41)), (2, 1, (C (7)))], none⟩,
 ⟨(some 43), .mv (T 6), none⟩,
 ⟨none, .store (some 3) (T 4) (T 42), none⟩,
 ⟨(some 5), .mv (T 43), none⟩])
 .ret))
 (.seq (.reg [⟨(some 45), .mv (T 0), none⟩,
 ⟨(some 46), .mv (T 1), none⟩,
 ⟨(some 47), .iaddr none (T 45) (T 46), none⟩,
 ⟨(some 48), .load none (T 47), none⟩,
 ⟨(some 49), .bin .eql (T 48) (C (0)), none⟩,
 ⟨(some 50), .mv (T 49), none⟩,
 ⟨(some 51), .mv (T 6), (some (50, true))⟩,
 ⟨(some 52), .bin .geq (T 51) (C (3)), (some (50, true))⟩,
 ⟨(some 53), .pick (T 50) (T 52) (.const (.bool false)), none⟩,
 ⟨(some 44), .mv (T 53), none⟩])
 (.cond (T 44)
 (.seq (.reg [⟨(some 54), .mv (T 6), none⟩,
 ⟨(some 55), .mm false (T 54) [(C (10))], none⟩,
 ⟨(some 6), .mv (T 55), none⟩])
 (.seq (.reg [⟨(some 56), .mv (T 6), none⟩,
 ⟨(some 57), .bin .sub (T 56) (C (3)), none⟩,
 ⟨(some 58), .build [(.int .i64 (0)), (.int .i64 (0)), (.int .i64 (0))] [(0, 1, (C (17))), (1, 1, (T 57)), (2, 1, (C (3)))], none⟩,
 ⟨(some 59), .mv (T 6), none⟩,
 ⟨none, .store (some 3) (T 4) (T 58), none⟩,
 ⟨(some 5), .mv (T 59), none⟩])
 .ret))
 (.seq (.reg [⟨(some 61), .mv (T 1), none⟩,
 ⟨(some 62), .bin .gtr (T 61) (C (0)), none⟩,
 ⟨(some 63), .mv (T 62), none⟩,
 ⟨(some 64), .mv (T 0), (some (63, true))⟩,
 ⟨(some 65), .mv (T 1), (some (63, true))⟩,
 ⟨(some 66), .iaddr none (T 64) (T 65), (some (63, true))⟩,
 ⟨(some 67), .load none (T 66), (some (63, true))⟩,
 ⟨(some 68), .mv (T 0), (some (63, true))⟩,
 ⟨(some 69), .mv (T 1), (some (63, true))⟩,
 ⟨(some 70), .bin .sub (T 69) (C (1)), (some (63, true))⟩,
 ⟨(some 71), .iaddr none (T 68) (T 70), (some (63, true))⟩,
 ⟨(some 72), .load none (T 71), (some (63, true))⟩,
 ⟨(some 73), .bin .eql (T 67) (T 72), (some (63, true))⟩,
 ⟨(some 74), .pick (T 63) (T 73) (.const (.bool false)), none⟩,
 ⟨(some 75), .mv (T 74), none⟩,
 ⟨(some 76), .mv (T 6), (some (75, true))⟩,
 ⟨(some 77), .bin .geq (T 76) (C (3)), (some (75, true))⟩,
 ⟨(some 78), .pick (T 75) (T 77) (.const (.bool false)), none⟩,
 ⟨(some 60), .mv (T 78), none⟩])
 (.cond (T 60)
 (.seq (.reg [⟨(some 79), .mv (T 6), none⟩,
 ⟨(some 80), .mm false (T 79) [(C (6))], none⟩,
 ⟨(some 6), .mv (T 80), none⟩])
 (.seq (.reg [⟨(some 81), .mv (T 6), none⟩,
 ⟨(some 82), .bin .sub (T 81) (C (3)), none⟩,
 ⟨(some 83), .build [(.int .i64 (0)), (.int .i64 (0)), (.int .i64 (0))] [(0, 1, (C (16))), (1, 1, (T 82)), (2, 1, (C (2)))], none⟩,
 ⟨(some 84), .mv (T 6), none⟩,
 ⟨none, .store (some 3) (T 4) (T 83), none⟩,
 ⟨(some 5), .mv (T 84), none⟩])
 .ret))
 .skip)))))))
 (.seq (.reg [⟨(some 85), .mv (T 0), none⟩,
 ⟨(some 86), .mv (T 1), none⟩,
 ⟨(some 87), .iaddr none (T 85) (T 86), none⟩,
 ⟨(some 88), .load none (T 87), none⟩,
 ⟨(some 89), .build [(.int .i64 (0)), (.int .i64 (0)), (.int .i64 (0))] [(0, 1, (T 88))], none⟩,
 ⟨none, .store (some 3) (T 4) (T 89), none⟩,
 ⟨(some 5), .mv (C (1)), none⟩])
 .ret)))))
theorem e_deflate_tellAt : slimC Tryd.prog 90 (Tryd.f106.body.getD .skip) = s_deflate_tellAt := by kernel_rfl
theorem r_deflate_tellAt : slimRes Tryd.prog Tryd.f106 = some [.cell 4 (some 3), .tmp 5] := by kernel_rfl
def s_bits_Mul64 : SCode :=
 (.seq (.reg [⟨(some 4), .mv (.const (.int .u64 (0))), none⟩,
 ⟨(some 5), .mv (.const (.int .u64 (0))), none⟩])
 (.seq (.reg [⟨(some 14), .mv (T 0), none⟩,
 ⟨(some 15), .bin .and (T 14) (.const (.int .u64 (4294967295))), none⟩,
 ⟨(some 6), .mv (T 15), none⟩])
 (.seq (.reg [⟨(some 16), .mv (T 0), none⟩,
 ⟨(some 17), .bin .shr (T 16) (.const (.int .u64 (32))), none⟩,
 ⟨(some 7), .mv (T 17), none⟩])
 (.seq (.reg [⟨(some 18), .mv (T 1), none⟩,
 ⟨(some 19), .bin .and (T 18) (.const (.int .u64 (4294967295))), none⟩,
 ⟨(some 8), .mv (T 19), none⟩])
 (.seq (.reg [⟨(some 20), .mv (T 1), none⟩,
 ⟨(some 21), .bin .shr (T 20) (.const (.int .u64 (32))), none⟩,
 ⟨(some 9), .mv (T 21), none⟩])
 (.seq (.reg [⟨(some 22), .mv (T 6), none⟩,
 ⟨(some 23), .mv (T 8), none⟩,
 ⟨(some 24), .bin .mul (T 22) (T 23), none⟩,
 ⟨(some 10), .mv (T 24), none⟩])
 (.seq (.reg [⟨(some 25), .mv (T 7), none⟩,
 ⟨(some 26), .mv (T 8), none⟩,
 ⟨(some 27), .bin .mul (T 25) (T 26), none⟩,
 ⟨(some 28), .mv (T 10), none⟩,
 ⟨(some 29), .bin .shr (T 28) (.const (.int .u64 (32))), none⟩,
 ⟨(some 30), .bin .add (T 27) (T 29), none⟩,
 ⟨(some 11), .mv (T 30), none⟩])
 (.seq (.reg [⟨(some 31), .mv (T 11), none⟩,
 ⟨(some 32), .bin .and (T 31) (.const (.int .u64 (4294967295))), none⟩,
 ⟨(some 12), .mv (T 32), none⟩])
 (.seq (.reg [⟨(some 33), .mv (T 11), none⟩,
 ⟨(some 34), .bin .shr (T 33) (.const (.int .u64 (32))), none⟩,
 ⟨(some 13), .mv (T 34), none⟩])
 (.seq (.reg [⟨(some 35), .mv (T 12), none⟩,
 ⟨(some 36), .mv (T 6), none⟩,
 ⟨(some 37), .mv (T 9), none⟩,
 ⟨(some 38), .bin .mul (T 36) (T 37), none⟩,
 ⟨(some 39), .bin .add (T 35) (T 38), none⟩,
 ⟨(some 12), .mv (T 39), none⟩])
 (.seq (.reg [⟨(some 40), .mv (T 7), none⟩,
 ⟨(some 41), .mv (T 9), none⟩,
 ⟨(some 42), .bin .mul (T 40) (T 41), none⟩,
 ⟨(some 43), .mv (T 13), none⟩,
 ⟨(some 44), .bin .add (T 42) (T 43), none⟩,
 ⟨(some 45), .mv (T 12), none⟩,
 ⟨(some 46), .bin .shr (T 45) (.const (.int .u64 (32))), none⟩,
 ⟨(some 47), .bin .add (T 44) (T 46), none⟩,
 ⟨(some 4), .mv (T 47), none⟩])
 (.seq (.reg [⟨(some 48), .mv (T 0), none⟩,
 ⟨(some 49), .mv (T 1), none⟩,
 ⟨(some 50), .bin .mul (T 48) (T 49), none⟩,
 ⟨(some 5), .mv (T 50), none⟩])
 .ret))))))))))))
theorem e_bits_Mul64 : slimC Tryd.prog 51 (Tryd.f108.body.getD .skip) = s_bits_Mul64 := by kernel_rfl
theorem r_bits_Mul64 : slimRes Tryd.prog Tryd.f108 = some [.tmp 4, .tmp 5] := by kernel_rfl
def s_bits_Len : SCode :=
 (.seq (.reg [⟨(some 2), .mv (C (0)), none⟩])
 (.seq (.cond (.const (.bool false))
 (.seq (.reg [⟨(some 3), .mv (T 0), none⟩,
 ⟨(some 4), .ci .u32 (T 3), none⟩,
 ⟨(some 5), .call true n_bits_Len32 [(T 4)], none⟩,
 ⟨(some 2), .mv (T 5), none⟩])
 .ret)
 .skip)
 (.seq (.reg [⟨(some 6), .mv (T 0), none⟩,
 ⟨(some 7), .call true n_bits_Len64 [(T 6)], none⟩,
 ⟨(some 2), .mv (T 7), none⟩])
 .ret)))
theorem e_bits_Len : slimC Tryd.prog 8 (Tryd.f109.body.getD .skip) = s_bits_Len := by kernel_rfl
theorem r_bits_Len : slimRes Tryd.prog Tryd.f109 = some [.tmp 2] := by kernel_rfl
def s_bits_Len64 : SCode :=
 (.seq (.reg [⟨(some 2), .mv (C (0)), none⟩])
 (.seq (.seq (.reg [⟨(some 3), .mv (T 0), none⟩,
 ⟨(some 4), .bin .geq (T 3) (.const (.int .u64 (4294967296))), none⟩])
 (.cond (T 4)
 (.seq (.reg [⟨(some 5), .mv (T 0), none⟩,
 ⟨(some 6), .bin .shr (T 5) (.const (.int .u64 (32))), none⟩,
 ⟨(some 0), .mv (T 6), none⟩])
 (.reg [⟨(some 2), .mv (C (32)), none⟩]))
 .skip))
 (.seq (.seq (.reg [⟨(some 7), .mv (T 0), none⟩,
 ⟨(some 8), .bin .geq (T 7) (.const (.int .u64 (65536))), none⟩])
 (.cond (T 8)
 (.seq (.reg [⟨(some 9), .mv (T 0), none⟩,
 ⟨(some 10), .bin .shr (T 9) (.const (.int .u64 (16))), none⟩,
 ⟨(some 0), .mv (T 10), none⟩])
 (.reg [⟨(some 11), .mv (T 2), none⟩,
 ⟨(some 12), .bin .add (T 11) (C (16)), none⟩,
 ⟨(some 2), .mv (T 12), none⟩]))
 .skip))
 (.seq (.seq (.reg [⟨(some 13), .mv (T 0), none⟩,
 ⟨(some 14), .bin .geq (T 13) (.const (.int .u64 (256))), none⟩])
 (.cond (T 14)
 (.seq (.reg [⟨(some 15), .mv (T 0), none⟩,
 ⟨(some 16), .bin .shr (T 15) (.const (.int .u64 (8))), none⟩,
 ⟨(some 0), .mv (T 16), none⟩])
 (.reg [⟨(some 17), .mv (T 2), none⟩,
 ⟨(some 18), .bin .add (T 17) (C (8)), none⟩,
 ⟨(some 2), .mv (T 18), none⟩]))
 .skip))
 (.seq (.reg [⟨(some 19), .mv (T 2), none⟩,
 ⟨(some 20), .mv (T 0), none⟩,
 ⟨(some 21), .ci .u8 (T 20), none⟩,
 ⟨(some 22), .idxS (.const (.string ⟨#[0, 1, 2, 2, 3, 3, 3, 3, 4, 4, 4, 4, 4, 4, 4, 4, 5, 5, 5, 5, 5, 5, 5, 5, 5, 5, 5, 5, 5, 5, 5, 5, 6, 6, 6, 6, 6, 6, 6, 6, 6, 6, 6, 6, 6, 6, 6, 6, 6, 6, 6, 6, 6, 6, 6, 6, 6, 6, 6, 6, 6, 6, 6, 6, 7, 7, 7, 7, 7, 7, 7, 7, 7, 7, 7, 7, 7, 7, 7, 7, 7, 7, 7, 7, 7, 7, 7, 7, 7, 7, 7, 7, 7, 7, 7, 7, 7, 7, 7, 7, 7, 7, 7, 7, 7, 7, 7, 7, 7, 7, 7, 7, 7, 7, 7, 7, 7, 7, 7, 7, 7, 7, 7, 7, 7, 7, 7, 7, 8, 8, 8, 8, 8, 8, 8, 8, 8, 8, 8, 8, 8, 8, 8, 8, 8, 8, 8, 8, 8, 8, 8, 8, 8, 8, 8, 8, 8, 8, 8, 8, 8, 8, 8, 8, 8, 8, 8, 8, 8, 8, 8, 8, 8, 8, 8, 8, 8, 8, 8, 8, 8, 8, 8, 8, 8, 8, 8, 8, 8, 8, 8, 8, 8, 8, 8, 8, 8, 8, 8, 8, 8, 8, 8, 8, 8, 8, 8, 8, 8, 8, 8, 8, 8, 8, 8, 8, 8, 8, 8, 8, 8, 8, 8, 8, 8, 8, 8, 8, 8, 8, 8, 8, 8, 8, 8, 8, 8, 8, 8, 8, 8, 8, 8, 8, 8, 8, 8, 8, 8, 8, 8, 8, 8, 8, 8, 8]⟩)) (T 21), none⟩,
 ⟨(some 23), .ci .i64 (T 22), none⟩,
 ⟨(some 24), .bin .add (T 19) (T 23), none⟩,
 ⟨(some 2), .mv (T 24), none⟩])
 .ret)))))
theorem e_bits_Len64 : slimC Tryd.prog 25 (Tryd.f112.body.getD .skip) = s_bits_Len64 := by kernel_rfl
theorem r_bits_Len64 : slimRes Tryd.prog Tryd.f112 = some [.tmp 2] := by kernel_rfl
def s_huff_cheapest : SCode :=
 (.seq (.reg [⟨(some 4), .mv (.const (.slice none 0 0)), none⟩])
 (.seq (.seq (.reg [⟨(some 6), .mv (T 0), none⟩,
 ⟨(some 7), .len false (T 6), none⟩,
 ⟨(some 8), .bin .lss (T 7) (C (2)), none⟩])
 (.cond (T 8)
 (.seq (.reg [⟨(some 9), .mv (T 0), none⟩,
 ⟨(some 4), .mv (T 9), none⟩])
 .ret)
 .skip))
 (.seq (.reg [⟨(some 10), .mv (T 0), none⟩,
 ⟨(some 11), .call true n_slices_SortStableFunchuff_batchhuff_batch [(T 10), (.func n_huff_byCount)], none⟩])
 (.seq (.reg [⟨(some 12), .mv (T 0), none⟩,
 ⟨(some 5), .mv (T 12), none⟩])
 (.seq (.seq (.reg [⟨(some 13), .mv (T 1), none⟩,
 ⟨(some 14), .bin .sub (T 13) (C (1)), none⟩,
 ⟨(some 15), .mv (C (0)), none⟩])
 (.block 0
 (.loop
 (.seq (.reg [⟨(some 16), .bin .lss (T 15) (T 14), none⟩])
 (.seq (.cond (T 16)
 .skip
 (.exit 0))
 (.seq (.block 1
 (.seq (.reg [⟨(some 17), .mv (T 0), none⟩,
 ⟨(some 18), .mv (T 5), none⟩,
 ⟨(some 19), .call true n_huff_pairs [(T 18)], none⟩,
 ⟨(some 20), .bslice none [(T 17), (T 19)], none⟩,
 ⟨(some 21), .call true n_slices_Concathuff_batchhuff_batch [(T 20)], none⟩,
 ⟨(some 5), .mv (T 21), none⟩])
 (.reg [⟨(some 22), .mv (T 5), none⟩,
 ⟨(some 23), .call true n_slices_SortStableFunchuff_batchhuff_batch [(T 22), (.func n_huff_byCount)], none⟩])))
 (.reg [⟨(some 24), .bin .add (T 15) (C (1)), none⟩,
 ⟨(some 15), .mv (T 24), none⟩])))))))
 (.seq (.reg [⟨(some 25), .mv (T 5), none⟩,
 ⟨(some 26), .mv (T 0), none⟩,
 ⟨(some 27), .len false (T 26), none⟩,
 ⟨(some 28), .bin .mul (C (2)) (T 27), none⟩,
 ⟨(some 29), .bin .sub (T 28) (C (2)), none⟩,
 ⟨(some 30), .sl (some 2) (T 25) none (some (T 29)), none⟩,
 ⟨(some 4), .mv (T 30), none⟩])
 .ret))))))
theorem e_huff_cheapest : slimC Tryd.prog 31 (Tryd.f110.body.getD .skip) = s_huff_cheapest := by kernel_rfl
theorem r_huff_cheapest : slimRes Tryd.prog Tryd.f110 = some [.tmp 4] := by kernel_rfl
def s_slices_SortStableFunchuff_batchhuff_batch : SCode :=
 (.reg [⟨(some 4), .mv (T 0), none⟩,
 ⟨(some 5), .mv (T 0), none⟩,
 ⟨(some 6), .len false (T 5), none⟩,
 ⟨(some 7), .mv (T 1), none⟩,
 ⟨(some 8), .call true n_slices_stableCmpFunchuff_batch [(T 4), (T 6), (T 7)], none⟩])
theorem e_slices_SortStableFunchuff_batchhuff_batch : slimC Tryd.prog 9 (Tryd.f113.body.getD .skip) = s_slices_SortStableFunchuff_batchhuff_batch := by kernel_rfl
theorem r_slices_SortStableFunchuff_batchhuff_batch : slimRes Tryd.prog Tryd.f113 = some [] := by kernel_rfl
def s_huff_byCount : SCode :=
 (.seq (.reg [⟨(some 2), .box (T 0), none⟩,
 ⟨(some 3), .box (T 1), none⟩,
 ⟨(some 4), .mv (C (0)), none⟩])
 (.seq (.reg [⟨(some 5), .faddr 0 (T 2), none⟩,
 ⟨(some 6), .load none (T 5), none⟩,
 ⟨(some 7), .faddr 0 (T 3), none⟩,
 ⟨(some 8), .load none (T 7), none⟩,
 ⟨(some 9), .call true n_cmp_Compareint [(T 6), (T 8)], none⟩,
 ⟨(some 4), .mv (T 9), none⟩])
 .ret))
theorem e_huff_byCount : slimC Tryd.prog 10 (Tryd.f114.body.getD .skip) = s_huff_byCount := by kernel_rfl
theorem r_huff_byCount : slimRes Tryd.prog Tryd.f114 = some [.tmp 4] := by kernel_rfl
def s_slices_Concathuff_batchhuff_batch : SCode :=
 (.seq (.reg [⟨(some 2), .mv (.const (.slice none 0 0)), none⟩])
 (.seq (.reg [⟨(some 3), .mv (C (0)), none⟩])
 (.seq (.seq (.reg [⟨(some 9), .mv (T 0), none⟩,
 ⟨(some 10), .len false (T 9), none⟩,
 ⟨(some 11), .mv (C (0)), none⟩])
 (.block 0
 (.loop
 (.seq (.reg [⟨(some 12), .bin .lss (T 11) (T 10), none⟩])
 (.seq (.cond (T 12)
 .skip
 (.exit 0))
 (.seq (.block 1
 (.seq (.reg [⟨(some 13), .iaddr none (T 9) (T 11), none⟩,
 ⟨(some 14), .load none (T 13), none⟩,
 ⟨(some 5), .mv (T 14), none⟩])
 (.seq (.reg [⟨(some 15), .mv (T 3), none⟩,
 ⟨(some 16), .mv (T 5), none⟩,
 ⟨(some 17), .len false (T 16), none⟩,
 ⟨(some 18), .bin .add (T 15) (T 17), none⟩,
 ⟨(some 3), .mv (T 18), none⟩])
 (.seq (.reg [⟨(some 19), .mv (T 3), none⟩,
 ⟨(some 20), .bin .lss (T 19) (C (0)), none⟩])
 (.cond (T 20)
 (.reg [⟨(some 21), .no, none⟩,
 ⟨none, .no, none⟩])
 .skip)))))
 (.reg [⟨(some 22), .bin .add (T 11) (C (1)), none⟩,
 ⟨(some 11), .mv (T 22), none⟩])))))))
 (.seq (.reg [⟨(some 23), .mv (T 3), none⟩,
 ⟨(some 24), .call true n_slices_Growhuff_batchhuff_batch [(.const (.slice none 0 0)), (T 23)], none⟩,
 ⟨(some 6), .mv (T 24), none⟩])
 (.seq (.seq (.reg [⟨(some 25), .mv (T 0), none⟩,
 ⟨(some 26), .len false (T 25), none⟩,
 ⟨(some 27), .mv (C (0)), none⟩])
 (.block 2
 (.loop
 (.seq (.reg [⟨(some 28), .bin .lss (T 27) (T 26), none⟩])
 (.seq (.cond (T 28)
 .skip
 (.exit 2))
 (.seq (.block 3
 (.seq (.reg [⟨(some 29), .iaddr none (T 25) (T 27), none⟩,
 ⟨(some 30), .load none (T 29), none⟩,
 ⟨(some 8), .mv (T 30), none⟩])
 (.reg [⟨(some 31), .mv (T 6), none⟩,
 ⟨(some 32), .mv (T 8), none⟩,
 ⟨(some 33), .app (some 2) 32 (T 31) (T 32), none⟩,
 ⟨(some 6), .mv (T 33), none⟩])))
 (.reg [⟨(some 34), .bin .add (T 27) (C (1)), none⟩,
 ⟨(some 27), .mv (T 34), none⟩])))))))
 (.seq (.reg [⟨(some 35), .mv (T 6), none⟩,
 ⟨(some 2), .mv (T 35), none⟩])
 .ret))))))
theorem e_slices_Concathuff_batchhuff_batch : slimC Tryd.prog 36 (Tryd.f115.body.getD .skip) = s_slices_Concathuff_batchhuff_batch := by kernel_rfl
theorem r_slices_Concathuff_batchhuff_batch : slimRes Tryd.prog Tryd.f115 = some [.tmp 2] := by kernel_rfl
def s_huff_pairs : SCode :=
 (.seq (.reg [⟨(some 2), .mv (.const (.slice none 0 0)), none⟩])
 (.seq (.reg [⟨(some 3), .mv (.const (.slice none 0 0)), none⟩])
 (.seq (.seq (.reg [⟨(some 4), .mv (C (1)), none⟩])
 (.block 0
 (.loop
 (.seq (.seq (.reg [⟨(some 7), .mv (T 4), none⟩,
 ⟨(some 8), .mv (T 0), none⟩,
 ⟨(some 9), .len false (T 8), none⟩,
 ⟨(some 10), .bin .lss (T 7) (T 9), none⟩])
 (.cond (T 10)
 .skip
 (.exit 0)))
 (.seq (.block 1
 (.seq (.reg [⟨(some 13), .mv (T 0), none⟩,
 ⟨(some 14), .mv (T 4), none⟩,
 ⟨(some 15), .bin .sub (T 14) (C (1)), none⟩,
 ⟨(some 16), .iaddr (some 2) (T 13) (T 15), none⟩,
 ⟨(some 17), .load (some 2) (T 16), none⟩,
 ⟨(some 18), .mv (T 0), none⟩,
 ⟨(some 19), .mv (T 4), none⟩,
 ⟨(some 20), .iaddr (some 2) (T 18) (T 19), none⟩,
 ⟨(some 21), .load (some 2) (T 20), none⟩,
 ⟨(some 5), .alloc [(.int .i64 (0)), (.slice none 0 0)], none⟩,
 ⟨none, .store (some 2) (T 5) (T 17), none⟩,
 ⟨(some 6), .alloc [(.int .i64 (0)), (.slice none 0 0)], none⟩,
 ⟨none, .store (some 2) (T 6) (T 21), none⟩])
 (.reg [⟨(some 22), .mv (T 3), none⟩,
 ⟨(some 23), .faddr 0 (T 5), none⟩,
 ⟨(some 24), .load none (T 23), none⟩,
 ⟨(some 25), .faddr 0 (T 6), none⟩,
 ⟨(some 26), .load none (T 25), none⟩,
 ⟨(some 27), .bin .add (T 24) (T 26), none⟩,
 ⟨(some 28), .faddr 1 (T 5), none⟩,
 ⟨(some 29), .load none (T 28), none⟩,
 ⟨(some 30), .faddr 1 (T 6), none⟩,
 ⟨(some 31), .load none (T 30), none⟩,
 ⟨(some 32), .bslice none [(T 29), (T 31)], none⟩,
 ⟨(some 33), .call false n_slices_Concatintint [(T 32)], none⟩,
 ⟨(some 34), .build [(.int .i64 (0)), (.slice none 0 0)] [(0, 1, (T 27)), (1, 1, (T 33))], none⟩,
 ⟨(some 35), .bslice (some 2) [(T 34)], none⟩,
 ⟨(some 36), .app (some 2) 32 (T 22) (T 35), none⟩,
 ⟨(some 3), .mv (T 36), none⟩])))
 (.reg [⟨(some 11), .mv (T 4), none⟩,
 ⟨(some 12), .bin .add (T 11) (C (2)), none⟩,
 ⟨(some 4), .mv (T 12), none⟩]))))))
 (.seq (.reg [⟨(some 37), .mv (T 3), none⟩,
 ⟨(some 2), .mv (T 37), none⟩])
 .ret))))
theorem e_huff_pairs : slimC Tryd.prog 38 (Tryd.f116.body.getD .skip) = s_huff_pairs := by kernel_rfl
theorem r_huff_pairs : slimRes Tryd.prog Tryd.f116 = some [.tmp 2] := by kernel_rfl
def s_slices_stableCmpFunchuff_batch : SCode :=
 (.seq (.reg [⟨(some 6), .mv (C (20)), none⟩])
 (.seq (.reg [⟨(some 10), .mv (T 6), none⟩,
 ⟨(some 7), .mv (C (0)), none⟩,
 ⟨(some 8), .mv (T 10), none⟩])
 (.seq (.block 0
 (.loop
 (.seq (.seq (.reg [⟨(some 11), .mv (T 8), none⟩,
 ⟨(some 12), .mv (T 1), none⟩,
 ⟨(some 13), .bin .leq (T 11) (T 12), none⟩])
 (.cond (T 13)
 .skip
 (.exit 0)))
 (.block 1
 (.seq (.reg [⟨(some 14), .mv (T 0), none⟩,
 ⟨(some 15), .mv (T 7), none⟩,
 ⟨(some 16), .mv (T 8), none⟩,
 ⟨(some 17), .mv (T 2), none⟩,
 ⟨(some 18), .call true n_slices_insertionSortCmpFunchuff_batch [(T 14), (T 15), (T 16), (T 17)], none⟩])
 (.seq (.reg [⟨(some 19), .mv (T 8), none⟩,
 ⟨(some 7), .mv (T 19), none⟩])
 (.reg [⟨(some 20), .mv (T 8), none⟩,
 ⟨(some 21), .mv (T 6), none⟩,
 ⟨(some 22), .bin .add (T 20) (T 21), none⟩,
 ⟨(some 8), .mv (T 22), none⟩])))))))
 (.seq (.reg [⟨(some 23), .mv (T 0), none⟩,
 ⟨(some 24), .mv (T 7), none⟩,
 ⟨(some 25), .mv (T 1), none⟩,
 ⟨(some 26), .mv (T 2), none⟩,
 ⟨(some 27), .call true n_slices_insertionSortCmpFunchuff_batch [(T 23), (T 24), (T 25), (T 26)], none⟩])
 (.block 2
 (.loop
 (.seq (.seq (.reg [⟨(some 28), .mv (T 6), none⟩,
 ⟨(some 29), .mv (T 1), none⟩,
 ⟨(some 30), .bin .lss (T 28) (T 29), none⟩])
 (.cond (T 30)
 .skip
 (.exit 2)))
 (.block 3
 (.seq (.reg [⟨(some 31), .mv (T 6), none⟩,
 ⟨(some 32), .bin .mul (C (2)) (T 31), none⟩,
 ⟨(some 7), .mv (C (0)), none⟩,
 ⟨(some 8), .mv (T 32), none⟩])
 (.seq (.block 4
 (.loop
 (.seq (.seq (.reg [⟨(some 33), .mv (T 8), none⟩,
 ⟨(some 34), .mv (T 1), none⟩,
 ⟨(some 35), .bin .leq (T 33) (T 34), none⟩])
 (.cond (T 35)
 .skip
 (.exit 4)))
 (.block 5
 (.seq (.reg [⟨(some 36), .mv (T 0), none⟩,
 ⟨(some 37), .mv (T 7), none⟩,
 ⟨(some 38), .mv (T 7), none⟩,
 ⟨(some 39), .mv (T 6), none⟩,
 ⟨(some 40), .bin .add (T 38) (T 39), none⟩,
 ⟨(some 41), .mv (T 8), none⟩,
 ⟨(some 42), .mv (T 2), none⟩,
 ⟨(some 43), .call true n_slices_symMergeCmpFunchuff_batch [(T 36), (T 37), (T 40), (T 41), (T 42)], none⟩])
 (.seq (.reg [⟨(some 44), .mv (T 8), none⟩,
 ⟨(some 7), .mv (T 44), none⟩])
 (.reg [⟨(some 45), .mv (T 8), none⟩,
 ⟨(some 46), .mv (T 6), none⟩,
 ⟨(some 47), .bin .mul (C (2)) (T 46), none⟩,
 ⟨(some 48), .bin .add (T 45) (T 47), none⟩,
 ⟨(some 8), .mv (T 48), none⟩])))))))
 (.seq (.seq (.reg [⟨(some 49), .mv (T 7), none⟩,
 ⟨(some 50), .mv (T 6), none⟩,
 ⟨(some 51), .bin .add (T 49) (T 50), none⟩,
 ⟨(some 9), .mv (T 51), none⟩])
 (.seq (.reg [⟨(some 52), .mv (T 9), none⟩,
 ⟨(some 53), .mv (T 1), none⟩,
 ⟨(some 54), .bin .lss (T 52) (T 53), none⟩])
 (.cond (T 54)
 (.reg [⟨(some 55), .mv (T 0), none⟩,
 ⟨(some 56), .mv (T 7), none⟩,
 ⟨(some 57), .mv (T 9), none⟩,
 ⟨(some 58), .mv (T 1), none⟩,
 ⟨(some 59), .mv (T 2), none⟩,
 ⟨(some 60), .call true n_slices_symMergeCmpFunchuff_batch [(T 55), (T 56), (T 57), (T 58), (T 59)], none⟩])
 .skip)))
 (.reg [⟨(some 61), .mv (T 6), none⟩,
 ⟨(some 62), .bin .mul (T 61) (C (2)), none⟩,
 ⟨(some 6), .mv (T 62), none⟩]))))))))))))
theorem e_slices_stableCmpFunchuff_batch : slimC Tryd.prog 63 (Tryd.f117.body.getD .skip) = s_slices_stableCmpFunchuff_batch := by kernel_rfl
theorem r_slices_stableCmpFunchuff_batch : slimRes Tryd.prog Tryd.f117 = some [] := by kernel_rfl
def s_cmp_Compareint : SCode :=
 (.seq (.reg [⟨(some 4), .mv (C (0)), none⟩])
 (.seq (.reg [⟨(some 7), .mv (T 0), none⟩,
 ⟨(some 8), .call true n_cmp_isNaNint [(T 7)], none⟩,
 ⟨(some 5), .mv (T 8), none⟩])
 (.seq (.reg [⟨(some 9), .mv (T 1), none⟩,
 ⟨(some 10), .call true n_cmp_isNaNint [(T 9)], none⟩,
 ⟨(some 6), .mv (T 10), none⟩])
 (.seq (.seq (.reg [⟨(some 11), .mv (T 5), none⟩])
 (.cond (T 11)
 (.seq (.seq (.reg [⟨(some 12), .mv (T 6), none⟩])
 (.cond (T 12)
 (.seq (.reg [⟨(some 4), .mv (C (0)), none⟩])
 .ret)
 .skip))
 (.seq (.reg [⟨(some 4), .mv (C (-1)), none⟩])
 .ret))
 .skip))
 (.seq (.seq (.reg [⟨(some 13), .mv (T 6), none⟩])
 (.cond (T 13)
 (.seq (.reg [⟨(some 4), .mv (C (1)), none⟩])
 .ret)
 .skip))
 (.seq (.seq (.reg [⟨(some 14), .mv (T 0), none⟩,
 ⟨(some 15), .mv (T 1), none⟩,
 ⟨(some 16), .bin .lss (T 14) (T 15), none⟩])
 (.cond (T 16)
 (.seq (.reg [⟨(some 4), .mv (C (-1)), none⟩])
 .ret)
 .skip))
 (.seq (.seq (.reg [⟨(some 17), .mv (T 0), none⟩,
 ⟨(some 18), .mv (T 1), none⟩,
 ⟨(some 19), .bin .gtr (T 17) (T 18), none⟩])
 (.cond (T 19)
 (.seq (.reg [⟨(some 4), .mv (C (1)), none⟩])
 .ret)
 .skip))
 (.seq (.reg [⟨(some 4), .mv (C (0)), none⟩])
 .ret))))))))
theorem e_cmp_Compareint : slimC Tryd.prog 20 (Tryd.f118.body.getD .skip) = s_cmp_Compareint := by kernel_rfl
theorem r_cmp_Compareint : slimRes Tryd.prog Tryd.f118 = some [.tmp 4] := by kernel_rfl
def s_slices_Growhuff_batchhuff_batch : SCode :=
 (.seq (.reg [⟨(some 4), .mv (.const (.slice none 0 0)), none⟩])
 (.seq (.seq (.reg [⟨(some 5), .mv (T 1), none⟩,
 ⟨(some 6), .bin .lss (T 5) (C (0)), none⟩])
 (.cond (T 6)
 (.reg [⟨(some 7), .no, none⟩,
 ⟨none, .no, none⟩])
 .skip))
 (.seq (.seq (.reg [⟨(some 8), .mv (T 1), none⟩,
 ⟨(some 9), .mv (T 0), none⟩,
 ⟨(some 10), .capn (T 9), none⟩,
 ⟨(some 11), .mv (T 0), none⟩,
 ⟨(some 12), .len false (T 11), none⟩,
 ⟨(some 13), .bin .sub (T 10) (T 12), none⟩,
 ⟨(some 14), .bin .sub (T 8) (T 13), none⟩,
 ⟨(some 1), .mv (T 14), none⟩])
 (.seq (.reg [⟨(some 15), .mv (T 1), none⟩,
 ⟨(some 16), .bin .gtr (T 15) (C (0)), none⟩])
 (.cond (T 16)
 (.reg [⟨(some 17), .mv (T 0), none⟩,
 ⟨(some 18), .mv (T 0), none⟩,
 ⟨(some 19), .capn (T 18), none⟩,
 ⟨(some 20), .sl (some 2) (T 17) none (some (T 19)), none⟩,
 ⟨(some 21), .mv (T 1), none⟩,
 ⟨(some 22), .appz (some 2) 32 [(.int .i64 (0)), (.slice none 0 0)] (T 20) (T 21), none⟩,
 ⟨(some 23), .mv (T 0), none⟩,
 ⟨(some 24), .len false (T 23), none⟩,
 ⟨(some 25), .sl (some 2) (T 22) none (some (T 24)), none⟩,
 ⟨(some 0), .mv (T 25), none⟩])
 .skip)))
 (.seq (.reg [⟨(some 26), .mv (T 0), none⟩,
 ⟨(some 4), .mv (T 26), none⟩])
 .ret))))
theorem e_slices_Growhuff_batchhuff_batch : slimC Tryd.prog 27 (Tryd.f119.body.getD .skip) = s_slices_Growhuff_batchhuff_batch := by kernel_rfl
theorem r_slices_Growhuff_batchhuff_batch : slimRes Tryd.prog Tryd.f119 = some [.tmp 4] := by kernel_rfl
def s_slices_insertionSortCmpFunchuff_batch : SCode :=
 (.seq (.reg [⟨(some 10), .mv (T 1), none⟩,
 ⟨(some 11), .bin .add (T 10) (C (1)), none⟩,
 ⟨(some 8), .mv (T 11), none⟩])
 (.block 0
 (.loop
 (.seq (.seq (.reg [⟨(some 12), .mv (T 8), none⟩,
 ⟨(some 13), .mv (T 2), none⟩,
 ⟨(some 14), .bin .lss (T 12) (T 13), none⟩])
 (.cond (T 14)
 .skip
 (.exit 0)))
 (.seq (.block 1
 (.seq (.reg [⟨(some 17), .mv (T 8), none⟩,
 ⟨(some 9), .mv (T 17), none⟩])
 (.block 2
 (.loop
 (.seq (.seq (.reg [⟨(some 18), .mv (T 9), none⟩,
 ⟨(some 19), .mv (T 1), none⟩,
 ⟨(some 20), .bin .gtr (T 18) (T 19), none⟩,
 ⟨(some 21), .mv (T 20), none⟩,
 ⟨(some 22), .mv (T 3), (some (21, true))⟩,
 ⟨(some 23), .mv (T 0), (some (21, true))⟩,
 ⟨(some 24), .mv (T 9), (some (21, true))⟩,
 ⟨(some 25), .iaddr (some 2) (T 23) (T 24), (some (21, true))⟩,
 ⟨(some 26), .load (some 2) (T 25), (some (21, true))⟩,
 ⟨(some 27), .mv (T 0), (some (21, true))⟩,
 ⟨(some 28), .mv (T 9), (some (21, true))⟩,
 ⟨(some 29), .bin .sub (T 28) (C (1)), (some (21, true))⟩,
 ⟨(some 30), .iaddr (some 2) (T 27) (T 29), (some (21, true))⟩,
 ⟨(some 31), .load (some 2) (T 30), (some (21, true))⟩,
 ⟨(some 32), .callv true (T 22) [(T 26), (T 31)], (some (21, true))⟩,
 ⟨(some 33), .bin .lss (T 32) (C (0)), (some (21, true))⟩,
 ⟨(some 34), .pick (T 21) (T 33) (.const (.bool false)), none⟩])
 (.cond (T 34)
 .skip
 (.exit 2)))
 (.seq (.block 3
 (.reg [⟨(some 37), .mv (T 0), none⟩,
 ⟨(some 38), .mv (T 9), none⟩,
 ⟨(some 39), .mv (T 0), none⟩,
 ⟨(some 40), .mv (T 9), none⟩,
 ⟨(some 41), .bin .sub (T 40) (C (1)), none⟩,
 ⟨(some 42), .mv (T 0), none⟩,
 ⟨(some 43), .mv (T 9), none⟩,
 ⟨(some 44), .bin .sub (T 43) (C (1)), none⟩,
 ⟨(some 45), .iaddr (some 2) (T 42) (T 44), none⟩,
 ⟨(some 46), .load (some 2) (T 45), none⟩,
 ⟨(some 47), .mv (T 0), none⟩,
 ⟨(some 48), .mv (T 9), none⟩,
 ⟨(some 49), .iaddr (some 2) (T 47) (T 48), none⟩,
 ⟨(some 50), .load (some 2) (T 49), none⟩,
 ⟨(some 51), .iaddr (some 2) (T 37) (T 38), none⟩,
 ⟨none, .store (some 2) (T 51) (T 46), none⟩,
 ⟨(some 52), .iaddr (some 2) (T 39) (T 41), none⟩,
 ⟨none, .store (some 2) (T 52) (T 50), none⟩]))
 (.reg [⟨(some 35), .mv (T 9), none⟩,
 ⟨(some 36), .bin .sub (T 35) (C (1)), none⟩,
 ⟨(some 9), .mv (T 36), none⟩])))))))
 (.reg [⟨(some 15), .mv (T 8), none⟩,
 ⟨(some 16), .bin .add (T 15) (C (1)), none⟩,
 ⟨(some 8), .mv (T 16), none⟩]))))))
theorem e_slices_insertionSortCmpFunchuff_batch : slimC Tryd.prog 53 (Tryd.f120.body.getD .skip) = s_slices_insertionSortCmpFunchuff_batch := by kernel_rfl
theorem r_slices_insertionSortCmpFunchuff_batch : slimRes Tryd.prog Tryd.f120 = some [] := by kernel_rfl
def s_slices_symMergeCmpFunchuff_batch : SCode :=
 (.seq (.seq (.reg [⟨(some 25), .mv (T 2), none⟩,
 ⟨(some 26), .mv (T 1), none⟩,
 ⟨(some 27), .bin .sub (T 25) (T 26), none⟩,
 ⟨(some 28), .bin .eql (T 27) (C (1)), none⟩])
 (.cond (T 28)
 (.seq (.reg [⟨(some 29), .mv (T 2), none⟩,
 ⟨(some 10), .mv (T 29), none⟩])
 (.seq (.reg [⟨(some 30), .mv (T 3), none⟩,
 ⟨(some 11), .mv (T 30), none⟩])
 (.seq (.block 0
 (.loop
 (.seq (.seq (.reg [⟨(some 31), .mv (T 10), none⟩,
 ⟨(some 32), .mv (T 11), none⟩,
 ⟨(some 33), .bin .lss (T 31) (T 32), none⟩])
 (.cond (T 33)
 .skip
 (.exit 0)))
 (.block 1
 (.seq (.reg [⟨(some 34), .mv (T 10), none⟩,
 ⟨(some 35), .mv (T 11), none⟩,
 ⟨(some 36), .bin .add (T 34) (T 35), none⟩,
 ⟨(some 37), .ci .u64 (T 36), none⟩,
 ⟨(some 38), .bin .shr (T 37) (.const (.int .u64 (1))), none⟩,
 ⟨(some 39), .ci .i64 (T 38), none⟩,
 ⟨(some 12), .mv (T 39), none⟩])
 (.seq (.reg [⟨(some 40), .mv (T 4), none⟩,
 ⟨(some 41), .mv (T 0), none⟩,
 ⟨(some 42), .mv (T 12), none⟩,
 ⟨(some 43), .iaddr (some 2) (T 41) (T 42), none⟩,
 ⟨(some 44), .load (some 2) (T 43), none⟩,
 ⟨(some 45), .mv (T 0), none⟩,
 ⟨(some 46), .mv (T 1), none⟩,
 ⟨(some 47), .iaddr (some 2) (T 45) (T 46), none⟩,
 ⟨(some 48), .load (some 2) (T 47), none⟩,
 ⟨(some 49), .callv true (T 40) [(T 44), (T 48)], none⟩,
 ⟨(some 50), .bin .lss (T 49) (C (0)), none⟩])
 (.cond (T 50)
 (.reg [⟨(some 51), .mv (T 12), none⟩,
 ⟨(some 52), .bin .add (T 51) (C (1)), none⟩,
 ⟨(some 10), .mv (T 52), none⟩])
 (.reg [⟨(some 53), .mv (T 12), none⟩,
 ⟨(some 11), .mv (T 53), none⟩]))))))))
 (.seq (.seq (.reg [⟨(some 54), .mv (T 1), none⟩,
 ⟨(some 13), .mv (T 54), none⟩])
 (.block 2
 (.loop
 (.seq (.seq (.reg [⟨(some 55), .mv (T 13), none⟩,
 ⟨(some 56), .mv (T 10), none⟩,
 ⟨(some 57), .bin .sub (T 56) (C (1)), none⟩,
 ⟨(some 58), .bin .lss (T 55) (T 57), none⟩])
 (.cond (T 58)
 .skip
 (.exit 2)))
 (.seq (.block 3
 (.reg [⟨(some 61), .mv (T 0), none⟩,
 ⟨(some 62), .mv (T 13), none⟩,
 ⟨(some 63), .mv (T 0), none⟩,
 ⟨(some 64), .mv (T 13), none⟩,
 ⟨(some 65), .bin .add (T 64) (C (1)), none⟩,
 ⟨(some 66), .mv (T 0), none⟩,
 ⟨(some 67), .mv (T 13), none⟩,
 ⟨(some 68), .bin .add (T 67) (C (1)), none⟩,
 ⟨(some 69), .iaddr (some 2) (T 66) (T 68), none⟩,
 ⟨(some 70), .load (some 2) (T 69), none⟩,
 ⟨(some 71), .mv (T 0), none⟩,
 ⟨(some 72), .mv (T 13), none⟩,
 ⟨(some 73), .iaddr (some 2) (T 71) (T 72), none⟩,
 ⟨(some 74), .load (some 2) (T 73), none⟩,
 ⟨(some 75), .iaddr (some 2) (T 61) (T 62), none⟩,
 ⟨none, .store (some 2) (T 75) (T 70), none⟩,
 ⟨(some 76), .iaddr (some 2) (T 63) (T 65), none⟩,
 ⟨none, .store (some 2) (T 76) (T 74), none⟩]))
 (.reg [⟨(some 59), .mv (T 13), none⟩,
 ⟨(some 60), .bin .add (T 59) (C (1)), none⟩,
 ⟨(some 13), .mv (T 60), none⟩]))))))
 .ret))))
 .skip))
 (.seq (.seq (.reg [⟨(some 77), .mv (T 3), none⟩,
 ⟨(some 78), .mv (T 2), none⟩,
 ⟨(some 79), .bin .sub (T 77) (T 78), none⟩,
 ⟨(some 80), .bin .eql (T 79) (C (1)), none⟩])
 (.cond (T 80)
 (.seq (.reg [⟨(some 81), .mv (T 1), none⟩,
 ⟨(some 14), .mv (T 81), none⟩])
 (.seq (.reg [⟨(some 82), .mv (T 2), none⟩,
 ⟨(some 15), .mv (T 82), none⟩])
 (.seq (.block 4
 (.loop
 (.seq (.seq (.reg [⟨(some 83), .mv (T 14), none⟩,
 ⟨(some 84), .mv (T 15), none⟩,
 ⟨(some 85), .bin .lss (T 83) (T 84), none⟩])
 (.cond (T 85)
 .skip
 (.exit 4)))
 (.block 5
 (.seq (.reg [⟨(some 86), .mv (T 14), none⟩,
 ⟨(some 87), .mv (T 15), none⟩,
 ⟨(some 88), .bin .add (T 86) (T 87), none⟩,
 ⟨(some 89), .ci .u64 (T 88), none⟩,
 ⟨(some 90), .bin .shr (T 89) (.const (.int .u64 (1))), none⟩,
 ⟨(some 91), .ci .i64 (T 90), none⟩,
 ⟨(some 16), .mv (T 91), none⟩])
 (.seq (.reg [⟨(some 92), .mv (T 4), none⟩,
 ⟨(some 93), .mv (T 0), none⟩,
 ⟨(some 94), .mv (T 2), none⟩,
 ⟨(some 95), .iaddr (some 2) (T 93) (T 94), none⟩,
 ⟨(some 96), .load (some 2) (T 95), none⟩,
 ⟨(some 97), .mv (T 0), none⟩,
 ⟨(some 98), .mv (T 16), none⟩,
 ⟨(some 99), .iaddr (some 2) (T 97) (T 98), none⟩,
 ⟨(some 100), .load (some 2) (T 99), none⟩,
 ⟨(some 101), .callv true (T 92) [(T 96), (T 100)], none⟩,
 ⟨(some 102), .bin .lss (T 101) (C (0)), none⟩,
 ⟨(some 103), .un .not (T 102), none⟩])
 (.cond (T 103)
 (.reg [⟨(some 104), .mv (T 16), none⟩,
 ⟨(some 105), .bin .add (T 104) (C (1)), none⟩,
 ⟨(some 14), .mv (T 105), none⟩])
 (.reg [⟨(some 106), .mv (T 16), none⟩,
 ⟨(some 15), .mv (T 106), none⟩]))))))))
 (.seq (.seq (.reg [⟨(some 107), .mv (T 2), none⟩,
 ⟨(some 17), .mv (T 107), none⟩])
 (.block 6
 (.loop
 (.seq (.seq (.reg [⟨(some 108), .mv (T 17), none⟩,
 ⟨(some 109), .mv (T 14), none⟩,
 ⟨(some 110), .bin .gtr (T 108) (T 109), none⟩])
 (.cond (T 110)
 .skip
 (.exit 6)))
 (.seq (.block 7
 (.reg [⟨(some 113), .mv (T 0), none⟩,
 ⟨(some 114), .mv (T 17), none⟩,
 ⟨(some 115), .mv (T 0), none⟩,
 ⟨(some 116), .mv (T 17), none⟩,
 ⟨(some 117), .bin .sub (T 116) (C (1)), none⟩,
 ⟨(some 118), .mv (T 0), none⟩,
 ⟨(some 119), .mv (T 17), none⟩,
 ⟨(some 120), .bin .sub (T 119) (C (1)), none⟩,
 ⟨(some 121), .iaddr (some 2) (T 118) (T 120), none⟩,
 ⟨(some 122), .load (some 2) (T 121), none⟩,
 ⟨(some 123), .mv (T 0), none⟩,
 ⟨(some 124), .mv (T 17), none⟩,
 ⟨(some 125), .iaddr (some 2) (T 123) (T 124), none⟩,
 ⟨(some 126), .load (some 2) (T 125), none⟩,
 ⟨(some 127), .iaddr (some 2) (T 113) (T 114), none⟩,
 ⟨none, .store (some 2) (T 127) (T 122), none⟩,
 ⟨(some 128), .iaddr (some 2) (T 115) (T 117), none⟩,
 ⟨none, .store (some 2) (T 128) (T 126), none⟩]))
 (.reg [⟨(some 111), .mv (T 17), none⟩,
 ⟨(some 112), .bin .sub (T 111) (C (1)), none⟩,
 ⟨(some 17), .mv (T 112), none⟩]))))))
 .ret))))
 .skip))
 (.seq (.reg [⟨(some 129), .mv (T 1), none⟩,
 ⟨(some 130), .mv (T 3), none⟩,
 ⟨(some 131), .bin .add (T 129) (T 130), none⟩,
 ⟨(some 132), .ci .u64 (T 131), none⟩,
 ⟨(some 133), .bin .shr (T 132) (.const (.int .u64 (1))), none⟩,
 ⟨(some 134), .ci .i64 (T 133), none⟩,
 ⟨(some 18), .mv (T 134), none⟩])
 (.seq (.reg [⟨(some 135), .mv (T 18), none⟩,
 ⟨(some 136), .mv (T 2), none⟩,
 ⟨(some 137), .bin .add (T 135) (T 136), none⟩,
 ⟨(some 19), .mv (T 137), none⟩])
 (.seq (.reg [⟨(some 20), .mv (C (0)), none⟩,
 ⟨(some 21), .mv (C (0)), none⟩])
 (.seq (.seq (.reg [⟨(some 138), .mv (T 2), none⟩,
 ⟨(some 139), .mv (T 18), none⟩,
 ⟨(some 140), .bin .gtr (T 138) (T 139), none⟩])
 (.cond (T 140)
 (.seq (.reg [⟨(some 141), .mv (T 19), none⟩,
 ⟨(some 142), .mv (T 3), none⟩,
 ⟨(some 143), .bin .sub (T 141) (T 142), none⟩,
 ⟨(some 20), .mv (T 143), none⟩])
 (.reg [⟨(some 144), .mv (T 18), none⟩,
 ⟨(some 21), .mv (T 144), none⟩]))
 (.seq (.reg [⟨(some 145), .mv (T 1), none⟩,
 ⟨(some 20), .mv (T 145), none⟩])
 (.reg [⟨(some 146), .mv (T 2), none⟩,
 ⟨(some 21), .mv (T 146), none⟩]))))
 (.seq (.reg [⟨(some 147), .mv (T 19), none⟩,
 ⟨(some 148), .bin .sub (T 147) (C (1)), none⟩,
 ⟨(some 22), .mv (T 148), none⟩])
 (.seq (.block 8
 (.loop
 (.seq (.seq (.reg [⟨(some 149), .mv (T 20), none⟩,
 ⟨(some 150), .mv (T 21), none⟩,
 ⟨(some 151), .bin .lss (T 149) (T 150), none⟩])
 (.cond (T 151)
 .skip
 (.exit 8)))
 (.block 9
 (.seq (.reg [⟨(some 152), .mv (T 20), none⟩,
 ⟨(some 153), .mv (T 21), none⟩,
 ⟨(some 154), .bin .add (T 152) (T 153), none⟩,
 ⟨(some 155), .ci .u64 (T 154), none⟩,
 ⟨(some 156), .bin .shr (T 155) (.const (.int .u64 (1))), none⟩,
 ⟨(some 157), .ci .i64 (T 156), none⟩,
 ⟨(some 23), .mv (T 157), none⟩])
 (.seq (.reg [⟨(some 158), .mv (T 4), none⟩,
 ⟨(some 159), .mv (T 0), none⟩,
 ⟨(some 160), .mv (T 22), none⟩,
 ⟨(some 161), .mv (T 23), none⟩,
 ⟨(some 162), .bin .sub (T 160) (T 161), none⟩,
 ⟨(some 163), .iaddr (some 2) (T 159) (T 162), none⟩,
 ⟨(some 164), .load (some 2) (T 163), none⟩,
 ⟨(some 165), .mv (T 0), none⟩,
 ⟨(some 166), .mv (T 23), none⟩,
 ⟨(some 167), .iaddr (some 2) (T 165) (T 166), none⟩,
 ⟨(some 168), .load (some 2) (T 167), none⟩,
 ⟨(some 169), .callv true (T 158) [(T 164), (T 168)], none⟩,
 ⟨(some 170), .bin .lss (T 169) (C (0)), none⟩,
 ⟨(some 171), .un .not (T 170), none⟩])
 (.cond (T 171)
 (.reg [⟨(some 172), .mv (T 23), none⟩,
 ⟨(some 173), .bin .add (T 172) (C (1)), none⟩,
 ⟨(some 20), .mv (T 173), none⟩])
 (.reg [⟨(some 174), .mv (T 23), none⟩,
 ⟨(some 21), .mv (T 174), none⟩]))))))))
 (.seq (.reg [⟨(some 175), .mv (T 19), none⟩,
 ⟨(some 176), .mv (T 20), none⟩,
 ⟨(some 177), .bin .sub (T 175) (T 176), none⟩,
 ⟨(some 24), .mv (T 177), none⟩])
 (.seq (.seq (.reg [⟨(some 178), .mv (T 20), none⟩,
 ⟨(some 179), .mv (T 2), none⟩,
 ⟨(some 180), .bin .lss (T 178) (T 179), none⟩,
 ⟨(some 181), .mv (T 180), none⟩,
 ⟨(some 182), .mv (T 2), (some (181, true))⟩,
 ⟨(some 183), .mv (T 24), (some (181, true))⟩,
 ⟨(some 184), .bin .lss (T 182) (T 183), (some (181, true))⟩,
 ⟨(some 185), .pick (T 181) (T 184) (.const (.bool false)), none⟩])
 (.cond (T 185)
 (.reg [⟨(some 186), .mv (T 0), none⟩,
 ⟨(some 187), .mv (T 20), none⟩,
 ⟨(some 188), .mv (T 2), none⟩,
 ⟨(some 189), .mv (T 24), none⟩,
 ⟨(some 190), .mv (T 4), none⟩,
 ⟨(some 191), .call true n_slices_rotateCmpFunchuff_batch [(T 186), (T 187), (T 188), (T 189), (T 190)], none⟩])
 .skip))
 (.seq (.seq (.reg [⟨(some 192), .mv (T 1), none⟩,
 ⟨(some 193), .mv (T 20), none⟩,
 ⟨(some 194), .bin .lss (T 192) (T 193), none⟩,
 ⟨(some 195), .mv (T 194), none⟩,
 ⟨(some 196), .mv (T 20), (some (195, true))⟩,
 ⟨(some 197), .mv (T 18), (some (195, true))⟩,
 ⟨(some 198), .bin .lss (T 196) (T 197), (some (195, true))⟩,
 ⟨(some 199), .pick (T 195) (T 198) (.const (.bool false)), none⟩])
 (.cond (T 199)
 (.reg [⟨(some 200), .mv (T 0), none⟩,
 ⟨(some 201), .mv (T 1), none⟩,
 ⟨(some 202), .mv (T 20), none⟩,
 ⟨(some 203), .mv (T 18), none⟩,
 ⟨(some 204), .mv (T 4), none⟩,
 ⟨(some 205), .call true n_slices_symMergeCmpFunchuff_batch [(T 200), (T 201), (T 202), (T 203), (T 204)], none⟩])
 .skip))
 (.seq (.reg [⟨(some 206), .mv (T 18), none⟩,
 ⟨(some 207), .mv (T 24), none⟩,
 ⟨(some 208), .bin .lss (T 206) (T 207), none⟩,
 ⟨(some 209), .mv (T 208), none⟩,
 ⟨(some 210), .mv (T 24), (some (209, true))⟩,
 ⟨(some 211), .mv (T 3), (some (209, true))⟩,
 ⟨(some 212), .bin .lss (T 210) (T 211), (some (209, true))⟩,
 ⟨(some 213), .pick (T 209) (T 212) (.const (.bool false)), none⟩])
 (.cond (T 213)
 (.reg [⟨(some 214), .mv (T 0), none⟩,
 ⟨(some 215), .mv (T 18), none⟩,
 ⟨(some 216), .mv (T 24), none⟩,
 ⟨(some 217), .mv (T 3), none⟩,
 ⟨(some 218), .mv (T 4), none⟩,
 ⟨(some 219), .call true n_slices_symMergeCmpFunchuff_batch [(T 214), (T 215), (T 216), (T 217), (T 218)], none⟩])
 .skip)))))))))))))
theorem e_slices_symMergeCmpFunchuff_batch : slimC Tryd.prog 220 (Tryd.f121.body.getD .skip) = s_slices_symMergeCmpFunchuff_batch := by kernel_rfl
theorem r_slices_symMergeCmpFunchuff_batch : slimRes Tryd.prog Tryd.f121 = some [] := by kernel_rfl
def s_cmp_isNaNint : SCode :=
 (.seq (.reg [⟨(some 2), .mv (.const (.bool false)), none⟩])
 (.seq (.reg [⟨(some 3), .mv (T 0), none⟩,
 ⟨(some 4), .mv (T 0), none⟩,
 ⟨(some 5), .bin .neq (T 3) (T 4), none⟩,
 ⟨(some 2), .mv (T 5), none⟩])
 .ret))
theorem e_cmp_isNaNint : slimC Tryd.prog 6 (Tryd.f122.body.getD .skip) = s_cmp_isNaNint := by kernel_rfl
theorem r_cmp_isNaNint : slimRes Tryd.prog Tryd.f122 = some [.tmp 2] := by kernel_rfl
def s_slices_rotateCmpFunchuff_batch : SCode :=
 (.seq (.reg [⟨(some 12), .mv (T 2), none⟩,
 ⟨(some 13), .mv (T 1), none⟩,
 ⟨(some 14), .bin .sub (T 12) (T 13), none⟩,
 ⟨(some 10), .mv (T 14), none⟩])
 (.seq (.reg [⟨(some 15), .mv (T 3), none⟩,
 ⟨(some 16), .mv (T 2), none⟩,
 ⟨(some 17), .bin .sub (T 15) (T 16), none⟩,
 ⟨(some 11), .mv (T 17), none⟩])
 (.seq (.block 0
 (.loop
 (.seq (.seq (.reg [⟨(some 18), .mv (T 10), none⟩,
 ⟨(some 19), .mv (T 11), none⟩,
 ⟨(some 20), .bin .neq (T 18) (T 19), none⟩])
 (.cond (T 20)
 .skip
 (.exit 0)))
 (.block 1
 (.seq (.reg [⟨(some 21), .mv (T 10), none⟩,
 ⟨(some 22), .mv (T 11), none⟩,
 ⟨(some 23), .bin .gtr (T 21) (T 22), none⟩])
 (.cond (T 23)
 (.seq (.reg [⟨(some 24), .mv (T 0), none⟩,
 ⟨(some 25), .mv (T 2), none⟩,
 ⟨(some 26), .mv (T 10), none⟩,
 ⟨(some 27), .bin .sub (T 25) (T 26), none⟩,
 ⟨(some 28), .mv (T 2), none⟩,
 ⟨(some 29), .mv (T 11), none⟩,
 ⟨(some 30), .mv (T 4), none⟩,
 ⟨(some 31), .call true n_slices_swapRangeCmpFunchuff_batch [(T 24), (T 27), (T 28), (T 29), (T 30)], none⟩])
 (.reg [⟨(some 32), .mv (T 10), none⟩,
 ⟨(some 33), .mv (T 11), none⟩,
 ⟨(some 34), .bin .sub (T 32) (T 33), none⟩,
 ⟨(some 10), .mv (T 34), none⟩]))
 (.seq (.reg [⟨(some 35), .mv (T 0), none⟩,
 ⟨(some 36), .mv (T 2), none⟩,
 ⟨(some 37), .mv (T 10), none⟩,
 ⟨(some 38), .bin .sub (T 36) (T 37), none⟩,
 ⟨(some 39), .mv (T 2), none⟩,
 ⟨(some 40), .mv (T 11), none⟩,
 ⟨(some 41), .bin .add (T 39) (T 40), none⟩,
 ⟨(some 42), .mv (T 10), none⟩,
 ⟨(some 43), .bin .sub (T 41) (T 42), none⟩,
 ⟨(some 44), .mv (T 10), none⟩,
 ⟨(some 45), .mv (T 4), none⟩,
 ⟨(some 46), .call true n_slices_swapRangeCmpFunchuff_batch [(T 35), (T 38), (T 43), (T 44), (T 45)], none⟩])
 (.reg [⟨(some 47), .mv (T 11), none⟩,
 ⟨(some 48), .mv (T 10), none⟩,
 ⟨(some 49), .bin .sub (T 47) (T 48), none⟩,
 ⟨(some 11), .mv (T 49), none⟩]))))))))
 (.reg [⟨(some 50), .mv (T 0), none⟩,
 ⟨(some 51), .mv (T 2), none⟩,
 ⟨(some 52), .mv (T 10), none⟩,
 ⟨(some 53), .bin .sub (T 51) (T 52), none⟩,
 ⟨(some 54), .mv (T 2), none⟩,
 ⟨(some 55), .mv (T 10), none⟩,
 ⟨(some 56), .mv (T 4), none⟩,
 ⟨(some 57), .call true n_slices_swapRangeCmpFunchuff_batch [(T 50), (T 53), (T 54), (T 55), (T 56)], none⟩]))))
theorem e_slices_rotateCmpFunchuff_batch : slimC Tryd.prog 58 (Tryd.f123.body.getD .skip) = s_slices_rotateCmpFunchuff_batch := by kernel_rfl
theorem r_slices_rotateCmpFunchuff_batch : slimRes Tryd.prog Tryd.f123 = some [] := by kernel_rfl
def s_slices_swapRangeCmpFunchuff_batch : SCode :=
 (.seq (.reg [⟨(some 10), .mv (C (0)), none⟩])
 (.block 0
 (.loop
 (.seq (.seq (.reg [⟨(some 11), .mv (T 10), none⟩,
 ⟨(some 12), .mv (T 3), none⟩,
 ⟨(some 13), .bin .lss (T 11) (T 12), none⟩])
 (.cond (T 13)
 .skip
 (.exit 0)))
 (.seq (.block 1
 (.reg [⟨(some 16), .mv (T 0), none⟩,
 ⟨(some 17), .mv (T 1), none⟩,
 ⟨(some 18), .mv (T 10), none⟩,
 ⟨(some 19), .bin .add (T 17) (T 18), none⟩,
 ⟨(some 20), .mv (T 0), none⟩,
 ⟨(some 21), .mv (T 2), none⟩,
 ⟨(some 22), .mv (T 10), none⟩,
 ⟨(some 23), .bin .add (T 21) (T 22), none⟩,
 ⟨(some 24), .mv (T 0), none⟩,
 ⟨(some 25), .mv (T 2), none⟩,
 ⟨(some 26), .mv (T 10), none⟩,
 ⟨(some 27), .bin .add (T 25) (T 26), none⟩,
 ⟨(some 28), .iaddr (some 2) (T 24) (T 27), none⟩,
 ⟨(some 29), .load (some 2) (T 28), none⟩,
 ⟨(some 30), .mv (T 0), none⟩,
 ⟨(some 31), .mv (T 1), none⟩,
 ⟨(some 32), .mv (T 10), none⟩,
 ⟨(some 33), .bin .add (T 31) (T 32), none⟩,
 ⟨(some 34), .iaddr (some 2) (T 30) (T 33), none⟩,
 ⟨(some 35), .load (some 2) (T 34), none⟩,
 ⟨(some 36), .iaddr (some 2) (T 16) (T 19), none⟩,
 ⟨none, .store (some 2) (T 36) (T 29), none⟩,
 ⟨(some 37), .iaddr (some 2) (T 20) (T 23), none⟩,
 ⟨none, .store (some 2) (T 37) (T 35), none⟩]))
 (.reg [⟨(some 14), .mv (T 10), none⟩,
 ⟨(some 15), .bin .add (T 14) (C (1)), none⟩,
 ⟨(some 10), .mv (T 15), none⟩]))))))
theorem e_slices_swapRangeCmpFunchuff_batch : slimC Tryd.prog 38 (Tryd.f124.body.getD .skip) = s_slices_swapRangeCmpFunchuff_batch := by kernel_rfl
theorem r_slices_swapRangeCmpFunchuff_batch : slimRes Tryd.prog Tryd.f124 = some [] := by kernel_rfl
def s_bytes_Clone : SCode :=
 (.seq (.reg [⟨(some 2), .mv (.const (.slice none 0 0)), none⟩])
 (.seq (.seq (.reg [⟨(some 3), .mv (T 0), none⟩,
 ⟨(some 4), .isnil false (T 3), none⟩])
 (.cond (T 4)
 (.seq (.reg [⟨(some 2), .mv (.const (.slice none 0 0)), none⟩])
 .ret)
 .skip))
 (.seq (.reg [⟨(some 5), .emp none, none⟩,
 ⟨(some 6), .mv (T 0), none⟩,
 ⟨(some 7), .app none 1 (T 5) (T 6), none⟩,
 ⟨(some 2), .mv (T 7), none⟩])
 .ret)))
theorem e_bytes_Clone : slimC Tryd.prog 8 (Tryd.f30.body.getD .skip) = s_bytes_Clone := by kernel_rfl
theorem r_bytes_Clone : slimRes Tryd.prog Tryd.f30 = some [.tmp 2] := by kernel_rfl
end Go.Proofs.YtbmppmdklappiaaDoor.Aw
namespace Go.Proofs.YtbmppmdklappiaaDoor.Aw
open Go
set_option linter.unusedSimpArgs false
set_option linter.unusedVariables false
set_option linter.defProp false
def nA (n : Nat) : AV := .sc (.int .i64 (n : Int))
theorem getD_nA {l : List Nat} {i : Nat} (h : i < l.length) : (l.map nA).getD i .junk = .sc (.int .i64 ((l.getD i 0 : Nat) : Int)) := by
  simp [List.getD, List.getElem?_eq_getElem h, nA]
theorem getD_zA {l : List Int} {i : Nat} (h : i < l.length) : (l.map int).getD i .junk = .sc (.int .i64 (l.getD i 0)) := by
  simp [List.getD, List.getElem?_eq_getElem h, int]
theorem free_nA {l : List Nat} : AV.free.freeL (l.map nA) = true := freeL_iff.2 fun x hx => by
  obtain ⟨n, _, rfl⟩ := List.mem_map.1 hx; rfl
theorem free_zA {l : List Int} : AV.free.freeL (l.map int) = true := freeL_iff.2 fun x hx => by
  obtain ⟨n, _, rfl⟩ := List.mem_map.1 hx; rfl
theorem renL_nA {ρ : Nat → Nat → Nat × Nat} {l : List Nat} : ren.renL ρ (l.map nA) = l.map nA := renL_free ρ _ free_nA
theorem renL_zA {ρ : Nat → Nat → Nat × Nat} {l : List Int} : ren.renL ρ (l.map int) = l.map int := renL_free ρ _ free_zA
theorem take_nA {l : List Nat} {n : Nat} : (l.map nA).take n = (l.take n).map nA := by simp
theorem drop_nA {l : List Nat} {n : Nat} : (l.map nA).drop n = (l.drop n).map nA := by simp
theorem take_zA {l : List Int} {n : Nat} : (l.map int).take n = (l.take n).map int := by simp
theorem drop_zA {l : List Int} {n : Nat} : (l.map int).drop n = (l.drop n).map int := by simp
theorem fzoL_nA {id g : Nat} {nl : Bool} {cells : List AV} {l : List Nat} : fzo.fzoL id g nl cells (l.map nA) = l.map nA := fzoL_free _ free_nA
theorem fzoL_zA {id g : Nat} {nl : Bool} {cells : List AV} {l : List Int} : fzo.fzoL id g nl cells (l.map int) = l.map int := fzoL_free _ free_zA
theorem frzL_nA {hp : Hp} : ∀ {l : List Nat}, frz.frzL hp (l.map nA) = l.map nA
  | [] => rfl
  | c :: l => by simp only [List.map_cons, frz.frzL, frzL_nA]; rfl
theorem foL_b8 : ∀ {l : List UInt8}, AV.fo.foL (l.map u8) = true
  | [] => rfl
  | _ :: l => by simp only [List.map_cons, AV.fo.foL, u8, AV.fo, Bool.true_and]; exact foL_b8
theorem splice_nA {l : List Nat} {k x : Nat} (h : k < l.length) : (l.take k).map nA ++ (.sc (.int .i64 (x : Int)) :: (l.drop (k + 1)).map nA) = (l.set k x).map nA := by
  rw [List.set_eq_take_append_cons_drop, if_pos h]
  simp [nA]
theorem splice_zA {l : List Int} {k : Nat} {x : Int} (h : k < l.length) : (l.take k).map int ++ (.sc (.int .i64 x) :: (l.drop (k + 1)).map int) = (l.set k x).map int := by
  rw [List.set_eq_take_append_cons_drop, if_pos h]
  simp [int]
theorem outOf_nil {st : ASt} : outOf st [] = .tup [] := rfl
def iR := And.intro @outOf_nil <| And.intro (And.intro (And.intro @getD_nA @getD_zA) (And.intro @free_nA @free_zA)) (And.intro (And.intro (And.intro @renL_nA @renL_zA) (And.intro (And.intro @take_nA @drop_nA) (And.intro @take_zA @drop_zA))) (And.intro (And.intro @fzoL_nA @fzoL_zA) @frzL_nA))
def fR := And.intro (And.intro (And.intro @fzo_sc @fzo_w32) (And.intro @fzo_junk @fzo_sl)) (And.intro (And.intro (And.intro @fzo_fp @fzo_agg) (And.intro @fzo_tup @fzo_own)) (And.intro (And.intro (And.intro @fzo_op @fzoL_nil) (And.intro @fzoL_cons @fzoL_u8)) (And.intro @fzoL_32 (And.intro @fzH_at @AO_fzo))))
theorem snocD {α : Type} {l : List α} {k : Nat} {d : α} (h : k < l.length) : l.take (k + 1) = l.take k ++ [l.getD k d] := by
  rw [List.take_succ_eq_append_getElem h]; simp [List.getD, List.getElem?_eq_getElem h]
theorem wrap_u64_id3 {x : Int} (h1 : 0 ≤ x) (h2 : x < 18446744073709551616) : IntKind.u64.wrap x = x := by
  simp only [IntKind.wrap, IntKind.bits, IntKind.signed]
  simp
  omega
theorem two_pow_le {n m : Nat} (h : n ≤ m) : 2 ^ n ≤ 2 ^ m := Nat.pow_le_pow_right (by omega) h
end Go.Proofs.YtbmppmdklappiaaDoor.Aw
