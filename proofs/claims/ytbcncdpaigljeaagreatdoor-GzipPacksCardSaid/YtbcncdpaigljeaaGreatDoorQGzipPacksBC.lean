/- Parts of the proof of GzipPacks. -/
import Derived.Test.YtbcncdpaigljeaaGreatDoorQGzipPacksBB
import Derived.Test.YtbcncdpaigljeaaGreatDoorProg
import Derived.Lib.Bytealg
namespace Go.Proofs.YtbcncdpaigljeaaGreatDoor.Aw
open Go
set_option maxRecDepth 100000
set_option linter.unusedSimpArgs false
abbrev n_bits_Len : Nat := 146
abbrev n_bits_Len32 : Nat := 151
abbrev n_bits_Len64 : Nat := 152
abbrev n_bits_Mul : Nat := 126
abbrev n_bits_Mul32 : Nat := 147
abbrev n_bits_Mul64 : Nat := 148
abbrev n_bytes_Clone : Nat := 54
abbrev n_bytes_IndexByte : Nat := 144
abbrev n_cmp_Compareint : Nat := 158
abbrev n_cmp_isNaNint : Nat := 162
abbrev n_codec_GetLe : Nat := 115
abbrev n_codec_Le : Nat := 68
abbrev n_codec_stands : Nat := 143
abbrev n_deflate_Deflate : Nat := 9
abbrev n_deflate_bestCode : Nat := 92
abbrev n_deflate_bestCodes : Nat := 52
abbrev n_deflate_bestTeller : Nat := 95
abbrev n_deflate_codeOf : Nat := 86
abbrev n_deflate_cut : Nat := 93
abbrev n_deflate_eachRun : Nat := 50
abbrev n_deflate_finder_add : Nat := 91
abbrev n_deflate_finder_alike : Nat := 128
abbrev n_deflate_finder_lastLike : Nat := 127
abbrev n_deflate_finder_longest : Nat := 90
abbrev n_deflate_finder_start : Nat := 129
abbrev n_deflate_fixedCodes : Nat := 48
abbrev n_deflate_newFinder : Nat := 89
abbrev n_deflate_packer_begin : Nat := 46
abbrev n_deflate_packer_dynamic : Nat := 23
abbrev n_deflate_packer_fixed : Nat := 21
abbrev n_deflate_packer_pieces : Nat := 47
abbrev n_deflate_packer_stored : Nat := 20
abbrev n_deflate_packer_storedBlock : Nat := 45
abbrev n_deflate_packer_symbol : Nat := 82
abbrev n_deflate_packer_tell : Nat := 53
abbrev n_deflate_piece_distance : Nat := 85
abbrev n_deflate_piece_isRun : Nat := 84
abbrev n_deflate_piece_literal : Nat := 83
abbrev n_deflate_piecesOf : Nat := 22
abbrev n_deflate_piecesOf_1 : Nat := 49
abbrev n_deflate_piecesOf_2 : Nat := 51
abbrev n_deflate_symbolOf : Nat := 123
abbrev n_deflate_tellAt : Nat := 131
abbrev n_deflate_tellsOf : Nat := 94
abbrev n_digest_Crc : Nat := 69
abbrev n_digest_CrcMore : Nat := 113
abbrev n_drayagelaw06_GzipPacks : Nat := 4
abbrev n_drayagelaw06_awake : Nat := 12
abbrev n_drayageref01_Be : Nat := 72
abbrev n_drayageref01_Find : Nat := 40
abbrev n_drayageref01_Turned : Nat := 71
abbrev n_drayageref02_Crc : Nat := 42
abbrev n_drayageref06_Bad : Nat := 14
abbrev n_drayageref06_Wrapped : Nat := 15
abbrev n_drayageref06_le : Nat := 41
abbrev n_gzip_Pack : Nat := 13
abbrev n_gzip_Unpack : Nat := 16
abbrev n_gzip_head : Nat := 39
abbrev n_gzip_reader_data : Nat := 75
abbrev n_gzip_reader_extra : Nat := 116
abbrev n_gzip_reader_head : Nat := 73
abbrev n_gzip_reader_headSum : Nat := 119
abbrev n_gzip_reader_member : Nat := 43
abbrev n_gzip_reader_name : Nat := 117
abbrev n_gzip_reader_tail : Nat := 76
abbrev n_gzip_reader_take : Nat := 114
abbrev n_gzip_reader_text : Nat := 118
abbrev n_gzip_reader_told : Nat := 74
abbrev n_gzip_tail : Nat := 37
abbrev n_huff_Check : Nat := 132
abbrev n_huff_Codes : Nat := 124
abbrev n_huff_Lengths : Nat := 130
abbrev n_huff_NewReader : Nat := 25
abbrev n_huff_NewWriter : Nat := 19
abbrev n_huff_Reader_Align : Nat := 98
abbrev n_huff_Reader_At : Nat := 27
abbrev n_huff_Reader_Bytes : Nat := 99
abbrev n_huff_Reader_Take : Nat := 55
abbrev n_huff_Reader_bit : Nat := 97
abbrev n_huff_Reader_left : Nat := 96
abbrev n_huff_Writer_Align : Nat := 79
abbrev n_huff_Writer_Bytes : Nat := 24
abbrev n_huff_Writer_Code : Nat := 122
abbrev n_huff_Writer_Put : Nat := 80
abbrev n_huff_Writer_Raw : Nat := 81
abbrev n_huff_Writer_bit : Nat := 121
abbrev n_huff_byCount : Nat := 154
abbrev n_huff_cheapest : Nat := 149
abbrev n_huff_firstRows : Nat := 133
abbrev n_huff_pairs : Nat := 156
abbrev n_huff_taken : Nat := 134
abbrev n_inflate_Inflate : Nat := 10
abbrev n_inflate_fixedCodes : Nat := 57
abbrev n_inflate_unpacker_block : Nat := 26
abbrev n_inflate_unpacker_room : Nat := 100
abbrev n_inflate_unpacker_stored : Nat := 56
abbrev n_inflate_unpacker_symbols : Nat := 58
abbrev n_inflate_unpacker_toldCodes : Nat := 59
abbrev n_slices_Concatbytebyte : Nat := 38
abbrev n_slices_Concathuff_batchhuff_batch : Nat := 155
abbrev n_slices_Concatintint : Nat := 87
abbrev n_slices_Growbytebyte : Nat := 70
abbrev n_slices_Growhuff_batchhuff_batch : Nat := 159
abbrev n_slices_Growintint : Nat := 125
abbrev n_slices_Repeatintint : Nat := 88
abbrev n_slices_SortStableFunchuff_batchhuff_batch : Nat := 153
abbrev n_slices_insertionSortCmpFunchuff_batch : Nat := 160
abbrev n_slices_rotateCmpFunchuff_batch : Nat := 163
abbrev n_slices_stableCmpFunchuff_batch : Nat := 157
abbrev n_slices_swapRangeCmpFunchuff_batch : Nat := 164
abbrev n_slices_symMergeCmpFunchuff_batch : Nat := 161
abbrev n_strings_IndexByte : Nat := 36
abbrev n_stringslite_IndexByte : Nat := 67
theorem mix : Tryz.prog.follows .mixedOrders = true := by kernel_rfl
def s_drayagelaw06_awake : SCode :=
 (.seq (.reg [so 0 (.mv (.const (.bool false)))])
 (.seq (.reg [so 6 (.bsl none [(.const (.int .u8 (97)))]), so 7 (.strz (T 6)), so 8 (.build [(.string ⟨#[]⟩), (.int .i64 (0)), (.slice none 0 0)] [(0, 1, (.const (.string ⟨#[110]⟩))), (1, 1, (C 1)), (2, 1, (T 7))]), so 9 (.call true n_gzip_Pack [(T 8), (C 0)]), sm 5 9, so 10 (.ext (T 5) 0), so 11 (.ext (T 5) 1), sm 1 10, sm 2 11])
 (.seq (.reg [sm 13 1, so 14 (.call true n_gzip_Unpack [(T 13), (C 10)]), sm 12 14, so 15 (.ext (T 12) 0), so 16 (.ext (T 12) 1), so 4 (.alloc [(.string ⟨#[]⟩), (.int .i64 (0)), (.int .i64 (0))]), sm 3 15, sn (.store (some 3) (T 4) (T 16))])
 (.seq (.reg [sm 17 2, so 18 (.bin .eql (T 17) (C 0)), sm 19 18, sg 20 (.load (some 3) (T 4)) 19 true, sg 21 (.build [(.string ⟨#[]⟩), (.int .i64 (0)), (.int .i64 (0))] []) 19 true, sg 22 (.aeq false (.agg #[(.string ⟨#[]⟩), (.int .i64 (0)), (.int .i64 (0))]) (T 20) (T 21)) 19 true, so 23 (.pick (T 19) (T 22) (.const (.bool false))), sm 24 23, sg 25 (.mv (T 1)) 24 true, sg 26 (.len false (T 25)) 24 true, sg 27 (.bin .eql (T 26) (C 26)) 24 true, so 28 (.pick (T 24) (T 27) (.const (.bool false))), sm 29 28, sg 30 (.mv (T 1)) 29 true, sg 31 (.sl none (T 30) none (some (C 12))) 29 true, sg 32 (.b2s (T 31)) 29 true, sg 33 (.bin .eql (T 32) (.const (.string ⟨#[31, 139, 8, 8, 1, 0, 0, 0, 0, 3, 110, 0]⟩))) 29 true, so 34 (.pick (T 29) (T 33) (.const (.bool false))), sm 35 34, sg 36 (.mv (T 3)) 35 true, sg 37 (.len false (T 36)) 35 true, sg 38 (.bin .eql (T 37) (C 1)) 35 true, so 39 (.pick (T 35) (T 38) (.const (.bool false))), sm 40 39, sg 41 (.mv (T 3)) 40 true, sg 42 (.iaddr (some 3) (T 41) (C 0)) 40 true, sg 43 (.faddr 0 (T 42)) 40 true, sg 44 (.load none (T 43)) 40 true, sg 45 (.bin .eql (T 44) (.const (.string ⟨#[110]⟩))) 40 true, so 46 (.pick (T 40) (T 45) (.const (.bool false))), sm 47 46, sg 48 (.mv (T 3)) 47 true, sg 49 (.iaddr (some 3) (T 48) (C 0)) 47 true, sg 50 (.faddr 2 (T 49)) 47 true, sg 51 (.load none (T 50)) 47 true, sg 52 (.b2s (T 51)) 47 true, sg 53 (.bin .eql (T 52) (.const (.string ⟨#[97]⟩))) 47 true, so 54 (.pick (T 47) (T 53) (.const (.bool false))), sm 0 54])
 .ret))))
theorem e_drayagelaw06_awake : slimC Tryz.prog 55 (Tryz.f12.body.getD .skip) = s_drayagelaw06_awake := by kernel_rfl
theorem r_drayagelaw06_awake : slimRes Tryz.prog Tryz.f12 = some [.tmp 0] := by kernel_rfl
def s_gzip_Pack : SCode :=
 (.seq (.reg [so 2 (.box (T 0)), so 4 (.mv (.const (.slice none 0 0))), so 5 (.mv (C 0))])
 (.seq (.seq (.reg [so 9 (.faddr 1 (T 2)), so 10 (.load none (T 9)), so 11 (.bin .lss (T 10) (C 0)), sm 12 11, sg 13 (.faddr 1 (T 2)) 12 false, sg 14 (.load none (T 13)) 12 false, sg 15 (.bin .gtr (T 14) (C 4294967295)) 12 false, so 16 (.pick (T 12) (.const (.bool true)) (T 15))])
 (.cond (T 16)
 (.seq (.reg [so 4 (.mv (.const (.slice none 0 0))), so 5 (.mv (C 1))])
 .ret)
 .skip))
 (.seq (.seq (.reg [so 17 (.faddr 0 (T 2)), so 18 (.load none (T 17)), so 19 (.len true (T 18)), so 20 (.bin .gtr (T 19) (C 200)), sm 21 20, sg 22 (.faddr 0 (T 2)) 21 false, sg 23 (.load none (T 22)) 21 false, sg 24 (.call true n_strings_IndexByte [(T 23), (.const (.int .u8 (0)))]) 21 false, sg 25 (.bin .geq (T 24) (C 0)) 21 false, so 26 (.pick (T 21) (.const (.bool true)) (T 25))])
 (.cond (T 26)
 (.seq (.reg [so 4 (.mv (.const (.slice none 0 0))), so 5 (.mv (C 10))])
 .ret)
 .skip))
 (.seq (.reg [so 28 (.faddr 2 (T 2)), so 29 (.load none (T 28)), sm 30 1, so 31 (.call true n_deflate_Deflate [(T 29), (T 30)]), sm 27 31, so 32 (.ext (T 27) 0), so 33 (.ext (T 27) 1), sm 6 32, sm 7 33])
 (.seq (.seq (.reg [sm 34 7, so 35 (.bin .neq (T 34) (C 0))])
 (.cond (T 35)
 (.seq (.reg [sm 36 7, so 4 (.mv (.const (.slice none 0 0))), sm 5 36])
 .ret)
 .skip))
 (.seq (.reg [so 37 (.faddr 2 (T 2)), so 38 (.load none (T 37)), so 39 (.call true n_gzip_tail [(T 38)]), so 8 (.alloc (List.replicate 8 (.int .u8 (0)))), sn (.store (some 8) (T 8) (T 39))])
 (.seq (.reg [so 40 (.load (some 3) (T 2)), so 41 (.call false n_gzip_head [(T 40)]), sm 42 6, so 43 (.sla 8 none (T 8) none none), so 44 (.bslice none [(T 41), (T 42), (T 43)]), so 45 (.call true n_slices_Concatbytebyte [(T 44)]), sm 4 45, so 5 (.mv (C 0))])
 .ret)))))))
theorem e_gzip_Pack : slimC Tryz.prog 46 (Tryz.f13.body.getD .skip) = s_gzip_Pack := by kernel_rfl
theorem r_gzip_Pack : slimRes Tryz.prog Tryz.f13 = some [.tmp 4, .tmp 5] := by kernel_rfl
def s_gzip_head : SCode :=
 (.seq (.reg [so 1 (.box (T 0)), so 2 (.mv (.const (.slice none 0 0)))])
 (.seq (.reg [so 3 (.mv (.const (.int .u8 (0))))])
 (.seq (.seq (.reg [so 5 (.faddr 0 (T 1)), so 6 (.load none (T 5)), so 7 (.bin .neq (T 6) (.const (.string ⟨#[]⟩)))])
 (.cond (T 7)
 (.reg [so 3 (.mv (.const (.int .u8 (8))))])
 .skip))
 (.seq (.reg [sm 8 3, so 9 (.bsl none [(.const (.int .u8 (31))), (.const (.int .u8 (139))), (.const (.int .u8 (8))), (T 8)]), sm 4 9])
 (.seq (.reg [sm 10 4, so 11 (.faddr 1 (T 1)), so 12 (.load none (T 11)), so 13 (.ci .u64 (T 12)), so 14 (.call true n_codec_Le [(T 13), (C 4)]), so 15 (.app none 1 (T 10) (T 14)), sm 4 15])
 (.seq (.reg [sm 16 4, so 17 (.bslice none [(.const (.int .u8 (0))), (.const (.int .u8 (3)))]), so 18 (.app none 1 (T 16) (T 17)), sm 4 18])
 (.seq (.seq (.reg [so 19 (.faddr 0 (T 1)), so 20 (.load none (T 19)), so 21 (.bin .neq (T 20) (.const (.string ⟨#[]⟩)))])
 (.cond (T 21)
 (.seq (.reg [sm 22 4, so 23 (.faddr 0 (T 1)), so 24 (.load none (T 23)), so 25 (.apps 1 (T 22) (T 24)), sm 4 25])
 (.reg [sm 26 4, so 27 (.bslice none [(.const (.int .u8 (0)))]), so 28 (.app none 1 (T 26) (T 27)), sm 4 28]))
 .skip))
 (.seq (.reg [sm 29 4, sm 2 29])
 .ret))))))))
theorem e_gzip_head : slimC Tryz.prog 30 (Tryz.f39.body.getD .skip) = s_gzip_head := by kernel_rfl
theorem r_gzip_head : slimRes Tryz.prog Tryz.f39 = some [.tmp 2] := by kernel_rfl
def s_gzip_tail : SCode :=
 (.seq (.reg [so 2 (.alloc (List.replicate 8 (.int .u8 (0))))])
 (.seq (.reg [so 3 (.alloc (List.replicate 8 (.int .u8 (0))))])
 (.seq (.reg [so 4 (.sla 8 none (T 3) none none), sm 5 0, so 6 (.call false n_digest_Crc [(T 5)]), so 7 (.ci .u64 (T 6)), so 8 (.call false n_codec_Le [(T 7), (C 4)]), so 9 (.copy (T 4) (T 8))])
 (.seq (.reg [so 10 (.sla 8 none (T 3) (some (C 4)) none), sm 11 0, so 12 (.len false (T 11)), so 13 (.ci .u64 (T 12)), so 14 (.call false n_codec_Le [(T 13), (C 4)]), so 15 (.copy (T 10) (T 14))])
 (.seq (.reg [so 16 (.load (some 8) (T 3)), sn (.store (some 8) (T 2) (T 16))])
 .ret)))))
theorem e_gzip_tail : slimC Tryz.prog 17 (Tryz.f37.body.getD .skip) = s_gzip_tail := by kernel_rfl
theorem r_gzip_tail : slimRes Tryz.prog Tryz.f37 = some [.cell 2 (some 8)] := by kernel_rfl
def s_gzip_Unpack : SCode :=
 (.seq (.reg [so 4 (.mv (.const (.slice none 0 0))), so 5 (.alloc [(.string ⟨#[]⟩), (.int .i64 (0)), (.int .i64 (0))])])
 (.seq (.seq (.reg [sm 11 1, so 12 (.bin .lss (T 11) (C 0)), sm 13 12, sg 14 (.mv (T 1)) 13 false, sg 15 (.bin .gtr (T 14) (C 16777216)) 13 false, so 16 (.pick (T 13) (.const (.bool true)) (T 15))])
 (.cond (T 16)
 (.seq (.reg [so 17 (.build [(.string ⟨#[]⟩), (.int .i64 (0)), (.int .i64 (0))] [(2, 1, (C 1))]), so 4 (.mv (.const (.slice none 0 0))), sn (.store (some 3) (T 5) (T 17))])
 .ret)
 .skip))
 (.seq (.reg [so 6 (.mv (.const (.slice none 0 0)))])
 (.seq (.seq (.reg [so 7 (.mv (C 0))])
 (.block 0
 (.loop
 (.seq (.seq (.reg [sm 18 7, so 19 (.bin .eql (T 18) (C 0)), sm 20 19, sg 21 (.mv (T 7)) 20 false, sg 22 (.mv (T 0)) 20 false, sg 23 (.len false (T 22)) 20 false, sg 24 (.bin .lss (T 21) (T 23)) 20 false, so 25 (.pick (T 20) (.const (.bool true)) (T 24))])
 (.cond (T 25)
 .skip
 (.exit 0)))
 (.block 1
 (.seq (.reg [sm 26 0, sm 27 7, so 28 (.sl none (T 26) (some (T 27)) none), so 29 (.build [(.slice none 0 0), (.int .i64 (0))] [(0, 1, (T 28))]), so 30 (.box (T 29)), sm 8 30])
 (.seq (.reg [sm 32 8, sm 33 1, so 34 (.call true n_gzip_reader_member [(T 32), (T 33)]), sm 31 34, so 35 (.ext (T 31) 0), so 36 (.ext (T 31) 1), so 9 (.alloc [(.string ⟨#[]⟩), (.int .i64 (0)), (.slice none 0 0)]), sn (.store (some 3) (T 9) (T 35)), sm 10 36])
 (.seq (.seq (.reg [sm 37 10, so 38 (.bin .neq (T 37) (C 0))])
 (.cond (T 38)
 (.seq (.reg [sm 39 7, sm 40 10, so 41 (.build [(.string ⟨#[]⟩), (.int .i64 (0)), (.int .i64 (0))] [(1, 1, (T 39)), (2, 1, (T 40))]), so 4 (.mv (.const (.slice none 0 0))), sn (.store (some 3) (T 5) (T 41))])
 .ret)
 .skip))
 (.seq (.reg [sm 42 6, so 43 (.load (some 3) (T 9)), so 44 (.bslice (some 3) [(T 43)]), so 45 (.app (some 3) 48 (T 42) (T 44)), sm 6 45])
 (.seq (.reg [sm 46 1, so 47 (.faddr 2 (T 9)), so 48 (.load none (T 47)), so 49 (.len false (T 48)), so 50 (.bin .sub (T 46) (T 49)), sm 1 50])
 (.reg [sm 51 7, sm 52 8, so 53 (.nilc (T 52)), so 54 (.faddr 1 (T 53)), so 55 (.load none (T 54)), so 56 (.bin .add (T 51) (T 55)), sm 7 56])))))))))))
 (.seq (.reg [sm 57 6, so 58 (.build [(.string ⟨#[]⟩), (.int .i64 (0)), (.int .i64 (0))] []), sm 4 57, sn (.store (some 3) (T 5) (T 58))])
 .ret)))))
theorem e_gzip_Unpack : slimC Tryz.prog 59 (Tryz.f16.body.getD .skip) = s_gzip_Unpack := by kernel_rfl
theorem r_gzip_Unpack : slimRes Tryz.prog Tryz.f16 = some [.tmp 4, .cell 5 (some 3)] := by kernel_rfl
def s_gzip_reader_member : SCode :=
 (.seq (.reg [so 4 (.alloc [(.string ⟨#[]⟩), (.int .i64 (0)), (.slice none 0 0)]), so 5 (.mv (C 0))])
 (.seq (.reg [sm 13 0, so 14 (.call true n_gzip_reader_head [(T 13)]), sm 12 14, so 15 (.ext (T 12) 0), so 16 (.ext (T 12) 1), so 17 (.ext (T 12) 2), sm 6 15, sm 7 16, sm 8 17])
 (.seq (.seq (.reg [sm 18 8, so 19 (.bin .neq (T 18) (C 0))])
 (.cond (T 19)
 (.seq (.reg [so 20 (.build [(.string ⟨#[]⟩), (.int .i64 (0)), (.slice none 0 0)] []), sm 21 8, sn (.store (some 3) (T 4) (T 20)), sm 5 21])
 .ret)
 .skip))
 (.seq (.reg [sm 23 0, sm 24 6, so 25 (.call true n_gzip_reader_told [(T 23), (T 24)]), sm 22 25, so 26 (.ext (T 22) 0), so 27 (.ext (T 22) 1), sm 9 26, sm 8 27])
 (.seq (.seq (.reg [sm 28 8, so 29 (.bin .neq (T 28) (C 0))])
 (.cond (T 29)
 (.seq (.reg [so 30 (.build [(.string ⟨#[]⟩), (.int .i64 (0)), (.slice none 0 0)] []), sm 31 8, sn (.store (some 3) (T 4) (T 30)), sm 5 31])
 .ret)
 .skip))
 (.seq (.reg [sm 33 0, sm 34 1, so 35 (.call true n_gzip_reader_data [(T 33), (T 34)]), sm 32 35, so 36 (.ext (T 32) 0), so 37 (.ext (T 32) 1), sm 10 36, sm 8 37])
 (.seq (.seq (.reg [sm 38 8, so 39 (.bin .neq (T 38) (C 0))])
 (.cond (T 39)
 (.seq (.reg [so 40 (.build [(.string ⟨#[]⟩), (.int .i64 (0)), (.slice none 0 0)] []), sm 41 8, sn (.store (some 3) (T 4) (T 40)), sm 5 41])
 .ret)
 .skip))
 (.seq (.seq (.reg [sm 42 0, sm 43 10, so 44 (.call true n_gzip_reader_tail [(T 42), (T 43)]), sm 11 44])
 (.seq (.reg [sm 45 11, so 46 (.bin .neq (T 45) (C 0))])
 (.cond (T 46)
 (.seq (.reg [so 47 (.build [(.string ⟨#[]⟩), (.int .i64 (0)), (.slice none 0 0)] []), sm 48 11, sn (.store (some 3) (T 4) (T 47)), sm 5 48])
 .ret)
 .skip)))
 (.seq (.reg [sm 49 9, sm 50 7, sm 51 10, so 52 (.build [(.string ⟨#[]⟩), (.int .i64 (0)), (.slice none 0 0)] [(0, 1, (T 49)), (1, 1, (T 50)), (2, 1, (T 51))]), sn (.store (some 3) (T 4) (T 52)), so 5 (.mv (C 0))])
 .ret)))))))))
theorem e_gzip_reader_member : slimC Tryz.prog 53 (Tryz.f43.body.getD .skip) = s_gzip_reader_member := by kernel_rfl
theorem r_gzip_reader_member : slimRes Tryz.prog Tryz.f43 = some [.cell 4 (some 3), .tmp 5] := by kernel_rfl
def s_gzip_reader_head : SCode :=
 (.seq (.reg [so 2 (.mv (.const (.int .u8 (0)))), so 3 (.mv (C 0)), so 4 (.mv (C 0))])
 (.seq (.reg [sm 9 0, so 10 (.call true n_gzip_reader_take [(T 9), (C 10)]), sm 8 10, so 11 (.ext (T 8) 0), so 12 (.ext (T 8) 1), sm 5 11, sm 4 12])
 (.seq (.block 0
 (.seq (.reg [sm 14 4, so 15 (.bin .neq (T 14) (C 0)), sm 13 15])
 (.cond (T 13)
 (.seq (.reg [sm 16 4, so 2 (.mv (.const (.int .u8 (0)))), so 3 (.mv (C 0)), sm 4 16])
 .ret)
 (.seq (.reg [sm 18 5, so 19 (.iaddr none (T 18) (C 0)), so 20 (.load none (T 19)), so 21 (.bin .neq (T 20) (.const (.int .u8 (31)))), sm 22 21, sg 23 (.mv (T 5)) 22 false, sg 24 (.iaddr none (T 23) (C 1)) 22 false, sg 25 (.load none (T 24)) 22 false, sg 26 (.bin .neq (T 25) (.const (.int .u8 (139)))) 22 false, so 27 (.pick (T 22) (.const (.bool true)) (T 26)), sm 17 27])
 (.cond (T 17)
 (.seq (.reg [so 2 (.mv (.const (.int .u8 (0)))), so 3 (.mv (C 0)), so 4 (.mv (C 3))])
 .ret)
 (.seq (.reg [sm 29 5, so 30 (.iaddr none (T 29) (C 2)), so 31 (.load none (T 30)), so 32 (.bin .neq (T 31) (.const (.int .u8 (8)))), sm 28 32])
 (.cond (T 28)
 (.seq (.reg [so 2 (.mv (.const (.int .u8 (0)))), so 3 (.mv (C 0)), so 4 (.mv (C 14))])
 .ret)
 (.seq (.reg [sm 34 5, so 35 (.iaddr none (T 34) (C 3)), so 36 (.load none (T 35)), so 37 (.bin .and (T 36) (.const (.int .u8 (224)))), so 38 (.bin .neq (T 37) (.const (.int .u8 (0)))), sm 33 38])
 (.cond (T 33)
 (.seq (.reg [so 2 (.mv (.const (.int .u8 (0)))), so 3 (.mv (C 0)), so 4 (.mv (C 3))])
 .ret)
 .skip)))))))))
 (.seq (.reg [sm 40 5, so 41 (.call true n_codec_GetLe [(T 40), (C 4), (C 4)]), sm 39 41, so 42 (.ext (T 39) 0), so 43 (.ext (T 39) 1), sm 6 42, sm 7 43])
 (.seq (.reg [sm 44 5, so 45 (.iaddr none (T 44) (C 3)), so 46 (.load none (T 45)), sm 47 6, so 48 (.ci .i64 (T 47)), sm 2 46, sm 3 48, so 4 (.mv (C 0))])
 .ret)))))
theorem e_gzip_reader_head : slimC Tryz.prog 49 (Tryz.f73.body.getD .skip) = s_gzip_reader_head := by kernel_rfl
theorem r_gzip_reader_head : slimRes Tryz.prog Tryz.f73 = some [.tmp 2, .tmp 3, .tmp 4] := by kernel_rfl
def s_gzip_reader_told : SCode :=
 (.seq (.reg [so 4 (.mv (.const (.string ⟨#[]⟩))), so 5 (.mv (C 0))])
 (.seq (.seq (.reg [sm 6 1, so 7 (.bin .and (T 6) (.const (.int .u8 (4)))), so 8 (.bin .neq (T 7) (.const (.int .u8 (0))))])
 (.cond (T 8)
 (.reg [sm 9 0, so 10 (.call true n_gzip_reader_extra [(T 9)]), sm 5 10])
 .skip))
 (.seq (.seq (.reg [sm 11 5, so 12 (.bin .eql (T 11) (C 0)), sm 13 12, sg 14 (.mv (T 1)) 13 true, sg 15 (.bin .and (T 14) (.const (.int .u8 (8)))) 13 true, sg 16 (.bin .neq (T 15) (.const (.int .u8 (0)))) 13 true, so 17 (.pick (T 13) (T 16) (.const (.bool false)))])
 (.cond (T 17)
 (.reg [sm 19 0, so 20 (.call true n_gzip_reader_name [(T 19)]), sm 18 20, so 21 (.ext (T 18) 0), so 22 (.ext (T 18) 1), sm 4 21, sm 5 22])
 .skip))
 (.seq (.seq (.reg [sm 23 5, so 24 (.bin .eql (T 23) (C 0)), sm 25 24, sg 26 (.mv (T 1)) 25 true, sg 27 (.bin .and (T 26) (.const (.int .u8 (16)))) 25 true, sg 28 (.bin .neq (T 27) (.const (.int .u8 (0)))) 25 true, so 29 (.pick (T 25) (T 28) (.const (.bool false)))])
 (.cond (T 29)
 (.reg [sm 31 0, so 32 (.call true n_gzip_reader_text [(T 31)]), sm 30 32, so 33 (.ext (T 30) 0), so 34 (.ext (T 30) 1), sm 5 34])
 .skip))
 (.seq (.seq (.reg [sm 35 5, so 36 (.bin .eql (T 35) (C 0)), sm 37 36, sg 38 (.mv (T 1)) 37 true, sg 39 (.bin .and (T 38) (.const (.int .u8 (2)))) 37 true, sg 40 (.bin .neq (T 39) (.const (.int .u8 (0)))) 37 true, so 41 (.pick (T 37) (T 40) (.const (.bool false)))])
 (.cond (T 41)
 (.reg [sm 42 0, so 43 (.call true n_gzip_reader_headSum [(T 42)]), sm 5 43])
 .skip))
 (.seq (.reg [sm 44 4, sm 45 5, sm 4 44, sm 5 45])
 .ret))))))
theorem e_gzip_reader_told : slimC Tryz.prog 46 (Tryz.f74.body.getD .skip) = s_gzip_reader_told := by kernel_rfl
theorem r_gzip_reader_told : slimRes Tryz.prog Tryz.f74 = some [.tmp 4, .tmp 5] := by kernel_rfl
def s_gzip_reader_data : SCode :=
 (.seq (.reg [so 4 (.mv (.const (.slice none 0 0))), so 5 (.mv (C 0))])
 (.seq (.reg [sm 12 0, so 13 (.nilc (T 12)), so 14 (.faddr 0 (T 13)), so 15 (.load none (T 14)), sm 16 0, so 17 (.nilc (T 16)), so 18 (.faddr 1 (T 17)), so 19 (.load none (T 18)), so 20 (.sl none (T 15) (some (T 19)) none), sm 6 20])
 (.seq (.reg [so 7 (.mv (C 4096))])
 (.block 0
 (.loop
 (.seq (.block 1
 (.seq (.reg [sm 23 6, sm 24 7, sm 25 6, so 26 (.len false (T 25)), so 27 (.mm false (T 24) [(T 26)]), so 28 (.sl none (T 23) none (some (T 27))), sm 8 28])
 (.seq (.reg [sm 30 8, sm 31 1, so 32 (.call true n_inflate_Inflate [(T 30), (T 31)]), sm 29 32, so 33 (.ext (T 29) 0), so 34 (.ext (T 29) 1), so 35 (.ext (T 29) 2), sm 9 33, sm 10 34, sm 11 35])
 (.seq (.seq (.reg [sm 36 11, so 37 (.bin .eql (T 36) (C 2)), sm 38 37, sg 39 (.mv (T 8)) 38 true, sg 40 (.len false (T 39)) 38 true, sg 41 (.mv (T 6)) 38 true, sg 42 (.len false (T 41)) 38 true, sg 43 (.bin .lss (T 40) (T 42)) 38 true, so 44 (.pick (T 38) (T 43) (.const (.bool false)))])
 (.cond (T 44)
 (.exit 1)
 .skip))
 (.seq (.reg [sm 45 0, so 46 (.nilc (T 45)), so 47 (.faddr 1 (T 46)), so 48 (.load none (T 47)), sm 49 10, so 50 (.bin .add (T 48) (T 49)), so 51 (.nilc (T 45)), so 52 (.faddr 1 (T 51)), sn (.store none (T 52) (T 50))])
 (.seq (.reg [sm 53 9, sm 54 11, sm 4 53, sm 5 54])
 .ret))))))
 (.reg [sm 21 7, so 22 (.bin .mul (T 21) (C 4)), sm 7 22])))))))
theorem e_gzip_reader_data : slimC Tryz.prog 55 (Tryz.f75.body.getD .skip) = s_gzip_reader_data := by kernel_rfl
theorem r_gzip_reader_data : slimRes Tryz.prog Tryz.f75 = some [.tmp 4, .tmp 5] := by kernel_rfl
def s_gzip_reader_tail : SCode :=
 (.seq (.reg [so 4 (.mv (C 0))])
 (.seq (.reg [sm 9 0, so 10 (.call true n_gzip_reader_take [(T 9), (C 8)]), sm 8 10, so 11 (.ext (T 8) 0), so 12 (.ext (T 8) 1), sm 5 11, sm 6 12])
 (.seq (.seq (.reg [sm 13 6, so 14 (.bin .neq (T 13) (C 0))])
 (.cond (T 14)
 (.seq (.reg [sm 15 6, sm 4 15])
 .ret)
 .skip))
 (.seq (.reg [so 7 (.alloc (List.replicate 8 (.int .u8 (0))))])
 (.seq (.reg [so 16 (.sla 8 none (T 7) none none), sm 17 5, so 18 (.copy (T 16) (T 17))])
 (.seq (.seq (.reg3 [so 19 (.load (some 8) (T 7)), sm 20 1, so 21 (.call true n_gzip_tail [(T 20)])]
 [((some 8), (T 7), 19)]
 [so 22 (.aeq true (.agg #[(.int .u8 (0)), (.int .u8 (0)), (.int .u8 (0)), (.int .u8 (0)), (.int .u8 (0)), (.int .u8 (0)), (.int .u8 (0)), (.int .u8 (0))]) (T 19) (T 21))])
 (.cond (T 22)
 (.seq (.reg [so 4 (.mv (C 5))])
 .ret)
 .skip))
 (.seq (.reg [so 4 (.mv (C 0))])
 .ret)))))))
theorem e_gzip_reader_tail : slimC Tryz.prog 23 (Tryz.f76.body.getD .skip) = s_gzip_reader_tail := by kernel_rfl
theorem r_gzip_reader_tail : slimRes Tryz.prog Tryz.f76 = some [.tmp 4] := by kernel_rfl
def s_gzip_reader_take : SCode :=
 (.seq (.reg [so 4 (.mv (.const (.slice none 0 0))), so 5 (.mv (C 0))])
 (.seq (.seq (.reg [sm 7 0, so 8 (.nilc (T 7)), so 9 (.faddr 0 (T 8)), so 10 (.load none (T 9)), so 11 (.len false (T 10)), sm 12 0, so 13 (.nilc (T 12)), so 14 (.faddr 1 (T 13)), so 15 (.load none (T 14)), so 16 (.bin .sub (T 11) (T 15)), sm 17 1, so 18 (.bin .lss (T 16) (T 17))])
 (.cond (T 18)
 (.seq (.reg [so 4 (.mv (.const (.slice none 0 0))), so 5 (.mv (C 2))])
 .ret)
 .skip))
 (.seq (.reg [sm 19 0, so 20 (.nilc (T 19)), so 21 (.faddr 0 (T 20)), so 22 (.load none (T 21)), sm 23 0, so 24 (.nilc (T 23)), so 25 (.faddr 1 (T 24)), so 26 (.load none (T 25)), sm 27 0, so 28 (.nilc (T 27)), so 29 (.faddr 1 (T 28)), so 30 (.load none (T 29)), sm 31 1, so 32 (.bin .add (T 30) (T 31)), so 33 (.sl none (T 22) (some (T 26)) (some (T 32))), sm 6 33])
 (.seq (.reg [sm 34 0, so 35 (.nilc (T 34)), so 36 (.faddr 1 (T 35)), so 37 (.load none (T 36)), sm 38 1, so 39 (.bin .add (T 37) (T 38)), so 40 (.nilc (T 34)), so 41 (.faddr 1 (T 40)), sn (.store none (T 41) (T 39))])
 (.seq (.reg [sm 42 6, sm 4 42, so 5 (.mv (C 0))])
 .ret)))))
theorem e_gzip_reader_take : slimC Tryz.prog 43 (Tryz.f114.body.getD .skip) = s_gzip_reader_take := by kernel_rfl
theorem r_gzip_reader_take : slimRes Tryz.prog Tryz.f114 = some [.tmp 4, .tmp 5] := by kernel_rfl
def s_gzip_reader_name : SCode :=
 (.seq (.reg [so 2 (.mv (.const (.string ⟨#[]⟩))), so 3 (.mv (C 0))])
 (.seq (.reg [sm 7 0, so 8 (.call true n_gzip_reader_text [(T 7)]), sm 6 8, so 9 (.ext (T 6) 0), so 10 (.ext (T 6) 1), sm 4 9, sm 5 10])
 (.seq (.seq (.reg [sm 11 5, so 12 (.bin .neq (T 11) (C 0))])
 (.cond (T 12)
 (.seq (.reg [sm 13 5, so 2 (.mv (.const (.string ⟨#[]⟩))), sm 3 13])
 .ret)
 .skip))
 (.seq (.seq (.reg [sm 14 4, so 15 (.len false (T 14)), so 16 (.bin .gtr (T 15) (C 200))])
 (.cond (T 16)
 (.seq (.reg [so 2 (.mv (.const (.string ⟨#[]⟩))), so 3 (.mv (C 10))])
 .ret)
 .skip))
 (.seq (.reg [sm 17 4, so 18 (.b2s (T 17)), sm 2 18, so 3 (.mv (C 0))])
 .ret)))))
theorem e_gzip_reader_name : slimC Tryz.prog 19 (Tryz.f117.body.getD .skip) = s_gzip_reader_name := by kernel_rfl
theorem r_gzip_reader_name : slimRes Tryz.prog Tryz.f117 = some [.tmp 2, .tmp 3] := by kernel_rfl
def s_gzip_reader_text : SCode :=
 (.seq (.reg [so 2 (.mv (.const (.slice none 0 0))), so 3 (.mv (C 0))])
 (.seq (.reg [sm 6 0, so 7 (.nilc (T 6)), so 8 (.faddr 0 (T 7)), so 9 (.load none (T 8)), sm 10 0, so 11 (.nilc (T 10)), so 12 (.faddr 1 (T 11)), so 13 (.load none (T 12)), so 14 (.sl none (T 9) (some (T 13)) none), so 15 (.call true n_bytes_IndexByte [(T 14), (.const (.int .u8 (0)))]), sm 4 15])
 (.seq (.seq (.reg [sm 16 4, so 17 (.bin .lss (T 16) (C 0))])
 (.cond (T 17)
 (.seq (.reg [so 2 (.mv (.const (.slice none 0 0))), so 3 (.mv (C 2))])
 .ret)
 .skip))
 (.seq (.reg [sm 18 0, so 19 (.nilc (T 18)), so 20 (.faddr 0 (T 19)), so 21 (.load none (T 20)), sm 22 0, so 23 (.nilc (T 22)), so 24 (.faddr 1 (T 23)), so 25 (.load none (T 24)), sm 26 0, so 27 (.nilc (T 26)), so 28 (.faddr 1 (T 27)), so 29 (.load none (T 28)), sm 30 4, so 31 (.bin .add (T 29) (T 30)), so 32 (.sl none (T 21) (some (T 25)) (some (T 31))), sm 5 32])
 (.seq (.reg [sm 33 0, so 34 (.nilc (T 33)), so 35 (.faddr 1 (T 34)), so 36 (.load none (T 35)), sm 37 4, so 38 (.bin .add (T 37) (C 1)), so 39 (.bin .add (T 36) (T 38)), so 40 (.nilc (T 33)), so 41 (.faddr 1 (T 40)), sn (.store none (T 41) (T 39))])
 (.seq (.reg [sm 42 5, sm 2 42, so 3 (.mv (C 0))])
 .ret))))))
theorem e_gzip_reader_text : slimC Tryz.prog 43 (Tryz.f118.body.getD .skip) = s_gzip_reader_text := by kernel_rfl
theorem r_gzip_reader_text : slimRes Tryz.prog Tryz.f118 = some [.tmp 2, .tmp 3] := by kernel_rfl
def s_strings_IndexByte : SCode :=
 (.seq (.reg [so 4 (.mv (C 0))])
 (.seq (.reg [sm 5 0, sm 6 1, so 7 (.call true n_stringslite_IndexByte [(T 5), (T 6)]), sm 4 7])
 .ret))
theorem e_strings_IndexByte : slimC Tryz.prog 8 (Tryz.f36.body.getD .skip) = s_strings_IndexByte := by kernel_rfl
theorem r_strings_IndexByte : slimRes Tryz.prog Tryz.f36 = some [.tmp 4] := by kernel_rfl
def s_bytes_Clone : SCode :=
 (.seq (.reg [so 2 (.mv (.const (.slice none 0 0)))])
 (.seq (.seq (.reg [sm 3 0, so 4 (.isnil false (T 3))])
 (.cond (T 4)
 (.seq (.reg [so 2 (.mv (.const (.slice none 0 0)))])
 .ret)
 .skip))
 (.seq (.reg [so 5 (.emp none), sm 6 0, so 7 (.app none 1 (T 5) (T 6)), sm 2 7])
 .ret)))
theorem e_bytes_Clone : slimC Tryz.prog 8 (Tryz.f54.body.getD .skip) = s_bytes_Clone := by kernel_rfl
theorem r_bytes_Clone : slimRes Tryz.prog Tryz.f54 = some [.tmp 2] := by kernel_rfl
def s_slices_Concatbytebyte : SCode :=
 (.seq (.reg [so 2 (.mv (.const (.slice none 0 0)))])
 (.seq (.reg [so 3 (.mv (C 0))])
 (.seq (.seq (.reg [sm 9 0, so 10 (.len false (T 9)), so 11 (.mv (C 0))])
 (.block 0
 (.loop
 (.seq (.reg [so 12 (.bin .lss (T 11) (T 10))])
 (.seq (.cond (T 12)
 .skip
 (.exit 0))
 (.seq (.block 1
 (.seq (.reg [so 13 (.iaddr none (T 9) (T 11)), so 14 (.load none (T 13)), sm 5 14])
 (.seq (.reg [sm 15 3, sm 16 5, so 17 (.len false (T 16)), so 18 (.bin .add (T 15) (T 17)), sm 3 18])
 (.seq (.reg [sm 19 3, so 20 (.bin .lss (T 19) (C 0))])
 (.cond (T 20)
 (.reg [so 21 (.no), sn (.no)])
 .skip)))))
 (.reg [so 22 (.bin .add (T 11) (C 1)), sm 11 22])))))))
 (.seq (.reg [sm 23 3, so 24 (.call true n_slices_Growbytebyte [(.const (.slice none 0 0)), (T 23)]), sm 6 24])
 (.seq (.seq (.reg [sm 25 0, so 26 (.len false (T 25)), so 27 (.mv (C 0))])
 (.block 2
 (.loop
 (.seq (.reg [so 28 (.bin .lss (T 27) (T 26))])
 (.seq (.cond (T 28)
 .skip
 (.exit 2))
 (.seq (.block 3
 (.seq (.reg [so 29 (.iaddr none (T 25) (T 27)), so 30 (.load none (T 29)), sm 8 30])
 (.reg [sm 31 6, sm 32 8, so 33 (.app none 1 (T 31) (T 32)), sm 6 33])))
 (.reg [so 34 (.bin .add (T 27) (C 1)), sm 27 34])))))))
 (.seq (.reg [sm 35 6, sm 2 35])
 .ret))))))
theorem e_slices_Concatbytebyte : slimC Tryz.prog 36 (Tryz.f38.body.getD .skip) = s_slices_Concatbytebyte := by kernel_rfl
theorem r_slices_Concatbytebyte : slimRes Tryz.prog Tryz.f38 = some [.tmp 2] := by kernel_rfl
def s_slices_Growbytebyte : SCode :=
 (.seq (.reg [so 4 (.mv (.const (.slice none 0 0)))])
 (.seq (.seq (.reg [sm 5 1, so 6 (.bin .lss (T 5) (C 0))])
 (.cond (T 6)
 (.reg [so 7 (.no), sn (.no)])
 .skip))
 (.seq (.seq (.reg [sm 8 1, sm 9 0, so 10 (.capn (T 9)), sm 11 0, so 12 (.len false (T 11)), so 13 (.bin .sub (T 10) (T 12)), so 14 (.bin .sub (T 8) (T 13)), sm 1 14])
 (.seq (.reg [sm 15 1, so 16 (.bin .gtr (T 15) (C 0))])
 (.cond (T 16)
 (.reg [sm 17 0, sm 18 0, so 19 (.capn (T 18)), so 20 (.sl none (T 17) none (some (T 19))), sm 21 1, so 22 (.appz none 1 [(.int .u8 (0))] (T 20) (T 21)), sm 23 0, so 24 (.len false (T 23)), so 25 (.sl none (T 22) none (some (T 24))), sm 0 25])
 .skip)))
 (.seq (.reg [sm 26 0, sm 4 26])
 .ret))))
theorem e_slices_Growbytebyte : slimC Tryz.prog 27 (Tryz.f70.body.getD .skip) = s_slices_Growbytebyte := by kernel_rfl
theorem r_slices_Growbytebyte : slimRes Tryz.prog Tryz.f70 = some [.tmp 4] := by kernel_rfl
def s_codec_Le : SCode :=
 (.seq (.reg [so 4 (.mv (.const (.slice none 0 0)))])
 (.seq (.seq (.reg [sm 7 1, so 8 (.bin .lss (T 7) (C 1)), sm 9 8, sg 10 (.mv (T 1)) 9 false, sg 11 (.bin .gtr (T 10) (C 8)) 9 false, so 12 (.pick (T 9) (.const (.bool true)) (T 11))])
 (.cond (T 12)
 (.seq (.reg [so 4 (.mv (.const (.slice none 0 0)))])
 .ret)
 .skip))
 (.seq (.reg [sm 13 1, so 14 (.mks none 1 [(.int .u8 (0))] (T 13) (T 13)), sm 5 14])
 (.seq (.seq (.reg [sm 15 1, so 16 (.mv (C 0))])
 (.block 0
 (.loop
 (.seq (.reg [so 17 (.bin .lss (T 16) (T 15))])
 (.seq (.cond (T 17)
 .skip
 (.exit 0))
 (.seq (.block 1
 (.seq (.reg [sm 18 16, sm 6 18])
 (.reg [sm 19 5, sm 20 6, sm 21 0, sm 22 6, so 23 (.bin .mul (C 8) (T 22)), so 24 (.bin .shr (T 21) (T 23)), so 25 (.ci .u8 (T 24)), so 26 (.iaddr none (T 19) (T 20)), sn (.store none (T 26) (T 25))])))
 (.reg [so 27 (.bin .add (T 16) (C 1)), sm 16 27])))))))
 (.seq (.reg [sm 28 5, sm 4 28])
 .ret)))))
theorem e_codec_Le : slimC Tryz.prog 29 (Tryz.f68.body.getD .skip) = s_codec_Le := by kernel_rfl
theorem r_codec_Le : slimRes Tryz.prog Tryz.f68 = some [.tmp 4] := by kernel_rfl
def s_codec_GetLe : SCode :=
 (.seq (.reg [so 6 (.mv (.const (.int .u64 (0)))), so 7 (.mv (.const (.bool false)))])
 (.seq (.seq (.reg [sm 10 0, sm 11 1, sm 12 2, so 13 (.call true n_codec_stands [(T 10), (T 11), (T 12)]), so 14 (.un .not (T 13))])
 (.cond (T 14)
 (.seq (.reg [so 6 (.mv (.const (.int .u64 (0)))), so 7 (.mv (.const (.bool false)))])
 .ret)
 .skip))
 (.seq (.reg [so 8 (.mv (.const (.int .u64 (0))))])
 (.seq (.seq (.reg [sm 15 2, so 16 (.mv (C 0))])
 (.block 0
 (.loop
 (.seq (.reg [so 17 (.bin .lss (T 16) (T 15))])
 (.seq (.cond (T 17)
 .skip
 (.exit 0))
 (.seq (.block 1
 (.seq (.reg [sm 18 16, sm 9 18])
 (.reg [sm 19 8, sm 20 0, sm 21 1, sm 22 9, so 23 (.bin .add (T 21) (T 22)), so 24 (.iaddr none (T 20) (T 23)), so 25 (.load none (T 24)), so 26 (.ci .u64 (T 25)), sm 27 9, so 28 (.bin .mul (C 8) (T 27)), so 29 (.bin .shl (T 26) (T 28)), so 30 (.bin .or (T 19) (T 29)), sm 8 30])))
 (.reg [so 31 (.bin .add (T 16) (C 1)), sm 16 31])))))))
 (.seq (.reg [sm 32 8, sm 6 32, so 7 (.mv (.const (.bool true)))])
 .ret)))))
theorem e_codec_GetLe : slimC Tryz.prog 33 (Tryz.f115.body.getD .skip) = s_codec_GetLe := by kernel_rfl
theorem r_codec_GetLe : slimRes Tryz.prog Tryz.f115 = some [.tmp 6, .tmp 7] := by kernel_rfl
def s_codec_stands : SCode :=
 (.seq (.reg [so 6 (.mv (.const (.bool false)))])
 (.seq (.seq (.reg [sm 7 2, so 8 (.bin .lss (T 7) (C 1)), sm 9 8, sg 10 (.mv (T 2)) 9 false, sg 11 (.bin .gtr (T 10) (C 8)) 9 false, so 12 (.pick (T 9) (.const (.bool true)) (T 11)), sm 13 12, sg 14 (.mv (T 1)) 13 false, sg 15 (.bin .lss (T 14) (C 0)) 13 false, so 16 (.pick (T 13) (.const (.bool true)) (T 15))])
 (.cond (T 16)
 (.seq (.reg [so 6 (.mv (.const (.bool false)))])
 .ret)
 .skip))
 (.seq (.reg [sm 17 1, sm 18 0, so 19 (.len false (T 18)), sm 20 2, so 21 (.bin .sub (T 19) (T 20)), so 22 (.bin .leq (T 17) (T 21)), sm 6 22])
 .ret)))
theorem e_codec_stands : slimC Tryz.prog 23 (Tryz.f143.body.getD .skip) = s_codec_stands := by kernel_rfl
theorem r_codec_stands : slimRes Tryz.prog Tryz.f143 = some [.tmp 6] := by kernel_rfl
def s_digest_Crc : SCode :=
 (.seq (.reg [so 2 (.mv (.const (.int .u32 (0))))])
 (.seq (.reg [sm 3 0, so 4 (.call true n_digest_CrcMore [(.const (.int .u32 (0))), (T 3)]), sm 2 4])
 .ret))
theorem e_digest_Crc : slimC Tryz.prog 5 (Tryz.f69.body.getD .skip) = s_digest_Crc := by kernel_rfl
theorem r_digest_Crc : slimRes Tryz.prog Tryz.f69 = some [.tmp 2] := by kernel_rfl
def s_digest_CrcMore : SCode :=
 (.seq (.reg [so 4 (.mv (.const (.int .u32 (0))))])
 (.seq (.reg [sm 9 0, so 10 (.un .xor (T 9)), sm 5 10])
 (.seq (.seq (.reg [sm 11 1, so 12 (.len false (T 11)), so 13 (.mv (C 0))])
 (.block 0
 (.loop
 (.seq (.reg [so 14 (.bin .lss (T 13) (T 12))])
 (.seq (.cond (T 14)
 .skip
 (.exit 0))
 (.seq (.block 1
 (.seq (.reg [so 15 (.iaddr none (T 11) (T 13)), so 16 (.load none (T 15)), sm 7 16])
 (.seq (.reg [sm 17 5, sm 18 7, so 19 (.ci .u32 (T 18)), so 20 (.bin .xor (T 17) (T 19)), sm 5 20])
 (.seq (.reg [so 21 (.mv (C 0))])
 (.block 2
 (.loop
 (.seq (.reg [so 22 (.bin .lss (T 21) (C 8))])
 (.seq (.cond (T 22)
 .skip
 (.exit 2))
 (.seq (.block 3
 (.seq (.reg [sm 23 5, so 24 (.bin .and (T 23) (.const (.int .u32 (1)))), sm 8 24])
 (.seq (.reg [sm 25 5, so 26 (.bin .shr (T 25) (.const (.int .u64 (1)))), sm 5 26])
 (.seq (.reg [sm 27 8, so 28 (.bin .neq (T 27) (.const (.int .u32 (0))))])
 (.cond (T 28)
 (.reg [sm 29 5, so 30 (.bin .xor (T 29) (.const (.int .u32 (3988292384)))), sm 5 30])
 .skip)))))
 (.reg [so 31 (.bin .add (T 21) (C 1)), sm 21 31]))))))))))
 (.reg [so 32 (.bin .add (T 13) (C 1)), sm 13 32])))))))
 (.seq (.reg [sm 33 5, so 34 (.un .xor (T 33)), sm 4 34])
 .ret))))
theorem e_digest_CrcMore : slimC Tryz.prog 35 (Tryz.f113.body.getD .skip) = s_digest_CrcMore := by kernel_rfl
theorem r_digest_CrcMore : slimRes Tryz.prog Tryz.f113 = some [.tmp 4] := by kernel_rfl
def s_deflate_Deflate : SCode :=
 (.seq (.reg [so 4 (.mv (.const (.slice none 0 0))), so 5 (.mv (C 0))])
 (.seq (.seq (.reg [sm 7 1, so 8 (.bin .lss (T 7) (C 0)), sm 9 8, sg 10 (.mv (T 1)) 9 false, sg 11 (.bin .gtr (T 10) (C 2)) 9 false, so 12 (.pick (T 9) (.const (.bool true)) (T 11))])
 (.cond (T 12)
 (.seq (.reg [so 4 (.mv (.const (.slice none 0 0))), so 5 (.mv (C 1))])
 .ret)
 .skip))
 (.seq (.seq (.reg [sm 13 0, so 14 (.len false (T 13)), so 15 (.bin .gtr (T 14) (C 16777216))])
 (.cond (T 15)
 (.seq (.reg [so 4 (.mv (.const (.slice none 0 0))), so 5 (.mv (C 4))])
 .ret)
 .skip))
 (.seq (.reg [so 16 (.call true n_huff_NewWriter []), so 17 (.build [(.pointer none)] [(0, 1, (T 16))]), so 6 (.alloc [(.pointer none)]), sn (.store (some 1) (T 6) (T 17))])
 (.seq (.seq (.reg [sm 18 1])
 (.block 0
 (.seq (.reg [so 20 (.bin .eql (T 18) (C 0)), sm 19 20])
 (.cond (T 19)
 (.reg [so 21 (.load (some 1) (T 6)), sm 22 0, so 23 (.call true n_deflate_packer_stored [(T 21), (T 22)])])
 (.seq (.reg [so 25 (.bin .eql (T 18) (C 1)), sm 24 25])
 (.cond (T 24)
 (.reg3 [so 26 (.load (some 1) (T 6)), sm 27 0, so 28 (.call true n_deflate_piecesOf [(T 27)])]
 [((some 1), (T 6), 26)]
 [so 29 (.call true n_deflate_packer_fixed [(T 26), (T 28)])])
 (.seq (.reg [so 31 (.bin .eql (T 18) (C 2)), sm 30 31])
 (.cond (T 30)
 (.reg3 [so 32 (.load (some 1) (T 6)), sm 33 0, so 34 (.call true n_deflate_piecesOf [(T 33)])]
 [((some 1), (T 6), 32)]
 [so 35 (.call true n_deflate_packer_dynamic [(T 32), (T 34)])])
 .skip))))))))
 (.seq (.reg [so 36 (.faddr 0 (T 6)), so 37 (.load none (T 36)), so 38 (.call true n_huff_Writer_Bytes [(T 37)]), sm 4 38, so 5 (.mv (C 0))])
 .ret))))))
theorem e_deflate_Deflate : slimC Tryz.prog 39 (Tryz.f9.body.getD .skip) = s_deflate_Deflate := by kernel_rfl
theorem r_deflate_Deflate : slimRes Tryz.prog Tryz.f9 = some [.tmp 4, .tmp 5] := by kernel_rfl
def s_inflate_Inflate : SCode :=
 (.seq (.reg [so 4 (.mv (.const (.slice none 0 0))), so 5 (.mv (C 0)), so 6 (.mv (C 0))])
 (.seq (.seq (.reg [sm 9 1, so 10 (.bin .lss (T 9) (C 0)), sm 11 10, sg 12 (.mv (T 1)) 11 false, sg 13 (.bin .gtr (T 12) (C 16777216)) 11 false, so 14 (.pick (T 11) (.const (.bool true)) (T 13))])
 (.cond (T 14)
 (.seq (.reg [so 4 (.mv (.const (.slice none 0 0))), so 5 (.mv (C 0)), so 6 (.mv (C 1))])
 .ret)
 .skip))
 (.seq (.reg [sm 15 0, so 16 (.call true n_huff_NewReader [(T 15)]), sm 17 1, so 18 (.build [(.pointer none), (.slice none 0 0), (.int .i64 (0)), (.pointer none)] [(0, 1, (T 16)), (2, 1, (T 17))]), so 19 (.box (T 18)), sm 7 19])
 (.seq (.seq (.reg [so 8 (.mv (.const (.bool false)))])
 (.block 0
 (.loop
 (.seq (.seq (.reg [sm 20 8, so 21 (.un .not (T 20))])
 (.cond (T 21)
 .skip
 (.exit 0)))
 (.block 1
 (.seq (.reg [sm 23 7, so 24 (.call true n_inflate_unpacker_block [(T 23)]), sm 22 24, so 25 (.ext (T 22) 0), so 26 (.ext (T 22) 1), sm 8 25, sm 6 26])
 (.seq (.reg [sm 27 6, so 28 (.bin .neq (T 27) (C 0))])
 (.cond (T 28)
 (.seq (.reg [sm 29 6, so 4 (.mv (.const (.slice none 0 0))), so 5 (.mv (C 0)), sm 6 29])
 .ret)
 .skip))))))))
 (.seq (.reg [sm 30 7, so 31 (.nilc (T 30)), so 32 (.faddr 0 (T 31)), so 33 (.load none (T 32)), so 34 (.call true n_huff_Reader_At [(T 33)]), so 35 (.bin .add (T 34) (C 8)), so 36 (.bin .sub (T 35) (C 1)), so 37 (.bin .quo (T 36) (C 8)), sm 5 37])
 (.seq (.reg [sm 38 7, so 39 (.nilc (T 38)), so 40 (.faddr 1 (T 39)), so 41 (.load none (T 40)), sm 42 7, so 43 (.nilc (T 42)), so 44 (.faddr 1 (T 43)), so 45 (.load none (T 44)), so 46 (.len false (T 45)), sm 47 7, so 48 (.nilc (T 47)), so 49 (.faddr 1 (T 48)), so 50 (.load none (T 49)), so 51 (.len false (T 50)), so 52 (.sl3 none (T 41) none (T 46) (T 51)), sm 53 5, sm 4 52, sm 5 53, so 6 (.mv (C 0))])
 .ret))))))
theorem e_inflate_Inflate : slimC Tryz.prog 54 (Tryz.f10.body.getD .skip) = s_inflate_Inflate := by kernel_rfl
theorem r_inflate_Inflate : slimRes Tryz.prog Tryz.f10 = some [.tmp 4, .tmp 5, .tmp 6] := by kernel_rfl
def s_huff_NewReader : SCode :=
 (.seq (.reg [so 2 (.mv (.const (.pointer none)))])
 (.seq (.reg [sm 3 0, so 4 (.call true n_bytes_Clone [(T 3)]), so 5 (.build [(.slice none 0 0), (.int .i64 (0))] [(0, 1, (T 4))]), so 6 (.box (T 5)), sm 2 6])
 .ret))
theorem e_huff_NewReader : slimC Tryz.prog 7 (Tryz.f25.body.getD .skip) = s_huff_NewReader := by kernel_rfl
theorem r_huff_NewReader : slimRes Tryz.prog Tryz.f25 = some [.tmp 2] := by kernel_rfl
def s_inflate_unpacker_block : SCode :=
 (.seq (.reg [so 2 (.mv (.const (.bool false))), so 3 (.mv (C 0))])
 (.seq (.reg [sm 8 0, so 9 (.nilc (T 8)), so 10 (.faddr 0 (T 9)), so 11 (.load none (T 10)), so 12 (.call true n_huff_Reader_Take [(T 11), (C 3)]), sm 7 12, so 13 (.ext (T 7) 0), so 14 (.ext (T 7) 1), sm 4 13, sm 5 14])
 (.seq (.seq (.reg [sm 15 5, so 16 (.un .not (T 15))])
 (.cond (T 16)
 (.seq (.reg [so 2 (.mv (.const (.bool false))), so 3 (.mv (C 2))])
 .ret)
 .skip))
 (.seq (.seq (.reg [sm 17 4, so 18 (.bin .shr (T 17) (.const (.int .u64 (1))))])
 (.block 0
 (.seq (.reg [so 20 (.bin .eql (T 18) (C 0)), sm 19 20])
 (.cond (T 19)
 (.reg [sm 21 0, so 22 (.call true n_inflate_unpacker_stored [(T 21)]), sm 3 22])
 (.seq (.reg [so 24 (.bin .eql (T 18) (C 1)), sm 23 24])
 (.cond (T 23)
 (.seq (.seq (.reg [sm 25 0, so 26 (.nilc (T 25)), so 27 (.faddr 3 (T 26)), so 28 (.load none (T 27)), so 29 (.isnilp false (T 28))])
 (.cond (T 29)
 (.reg [sm 30 0, so 31 (.call true n_inflate_fixedCodes []), so 32 (.nilc (T 30)), so 33 (.faddr 3 (T 32)), sn (.store none (T 33) (T 31))])
 .skip))
 (.reg [sm 34 0, sm 35 0, so 36 (.nilc (T 35)), so 37 (.faddr 3 (T 36)), so 38 (.load none (T 37)), so 39 (.call true n_inflate_unpacker_symbols [(T 34), (T 38)]), sm 3 39]))
 (.seq (.reg [so 41 (.bin .eql (T 18) (C 2)), sm 40 41])
 (.cond (T 40)
 (.seq (.reg [so 6 (.mv (.const (.pointer none)))])
 (.seq (.reg [sm 43 0, so 44 (.call true n_inflate_unpacker_toldCodes [(T 43)]), sm 42 44, so 45 (.ext (T 42) 0), so 46 (.ext (T 42) 1), sm 6 45, sm 3 46])
 (.seq (.reg [sm 47 3, so 48 (.bin .eql (T 47) (C 0))])
 (.cond (T 48)
 (.reg [sm 49 0, sm 50 6, so 51 (.call true n_inflate_unpacker_symbols [(T 49), (T 50)]), sm 3 51])
 .skip))))
 (.reg [so 3 (.mv (C 3))])))))))))
 (.seq (.reg [sm 52 4, so 53 (.bin .and (T 52) (C 1)), so 54 (.bin .eql (T 53) (C 1)), sm 55 3, sm 2 54, sm 3 55])
 .ret)))))
theorem e_inflate_unpacker_block : slimC Tryz.prog 56 (Tryz.f26.body.getD .skip) = s_inflate_unpacker_block := by kernel_rfl
theorem r_inflate_unpacker_block : slimRes Tryz.prog Tryz.f26 = some [.tmp 2, .tmp 3] := by kernel_rfl
def s_huff_Reader_At : SCode :=
 (.seq (.reg [so 2 (.mv (C 0))])
 (.seq (.reg [sm 3 0, so 4 (.nilc (T 3)), so 5 (.faddr 1 (T 4)), so 6 (.load none (T 5)), sm 2 6])
 .ret))
theorem e_huff_Reader_At : slimC Tryz.prog 7 (Tryz.f27.body.getD .skip) = s_huff_Reader_At := by kernel_rfl
theorem r_huff_Reader_At : slimRes Tryz.prog Tryz.f27 = some [.tmp 2] := by kernel_rfl
def s_huff_Reader_Take : SCode :=
 (.seq (.reg [so 4 (.mv (C 0)), so 5 (.mv (.const (.bool false)))])
 (.seq (.seq (.reg [sm 8 1, so 9 (.bin .lss (T 8) (C 0)), sm 10 9, sg 11 (.mv (T 1)) 10 false, sg 12 (.bin .gtr (T 11) (C 24)) 10 false, so 13 (.pick (T 10) (.const (.bool true)) (T 12)), sm 14 13, sg 15 (.mv (T 1)) 14 false, sg 16 (.mv (T 0)) 14 false, sg 17 (.call true n_huff_Reader_left [(T 16)]) 14 false, sg 18 (.bin .gtr (T 15) (T 17)) 14 false, so 19 (.pick (T 14) (.const (.bool true)) (T 18))])
 (.cond (T 19)
 (.seq (.reg [so 4 (.mv (C 0)), so 5 (.mv (.const (.bool false)))])
 .ret)
 .skip))
 (.seq (.reg [so 6 (.mv (C 0))])
 (.seq (.seq (.reg [sm 20 1, so 21 (.mv (C 0))])
 (.block 0
 (.loop
 (.seq (.reg [so 22 (.bin .lss (T 21) (T 20))])
 (.seq (.cond (T 22)
 .skip
 (.exit 0))
 (.seq (.block 1
 (.seq (.reg [sm 23 21, sm 7 23])
 (.reg [sm 24 6, sm 25 0, so 26 (.call true n_huff_Reader_bit [(T 25)]), sm 27 7, so 28 (.bin .shl (T 26) (T 27)), so 29 (.bin .or (T 24) (T 28)), sm 6 29])))
 (.reg [so 30 (.bin .add (T 21) (C 1)), sm 21 30])))))))
 (.seq (.reg [sm 31 6, sm 4 31, so 5 (.mv (.const (.bool true)))])
 .ret)))))
theorem e_huff_Reader_Take : slimC Tryz.prog 32 (Tryz.f55.body.getD .skip) = s_huff_Reader_Take := by kernel_rfl
theorem r_huff_Reader_Take : slimRes Tryz.prog Tryz.f55 = some [.tmp 4, .tmp 5] := by kernel_rfl
def s_inflate_unpacker_stored : SCode :=
 (.seq (.reg [so 2 (.mv (C 0))])
 (.seq (.reg [sm 7 0, so 8 (.nilc (T 7)), so 9 (.faddr 0 (T 8)), so 10 (.load none (T 9)), so 11 (.call true n_huff_Reader_Align [(T 10)])])
 (.seq (.reg [sm 13 0, so 14 (.nilc (T 13)), so 15 (.faddr 0 (T 14)), so 16 (.load none (T 15)), so 17 (.call true n_huff_Reader_Take [(T 16), (C 16)]), sm 12 17, so 18 (.ext (T 12) 0), so 19 (.ext (T 12) 1), sm 3 18, sm 4 19])
 (.seq (.seq (.reg [sm 20 4, so 21 (.un .not (T 20))])
 (.cond (T 21)
 (.seq (.reg [so 2 (.mv (C 2))])
 .ret)
 .skip))
 (.seq (.reg [sm 23 0, so 24 (.nilc (T 23)), so 25 (.faddr 0 (T 24)), so 26 (.load none (T 25)), so 27 (.call true n_huff_Reader_Take [(T 26), (C 16)]), sm 22 27, so 28 (.ext (T 22) 0), so 29 (.ext (T 22) 1), sm 5 28, sm 4 29])
 (.seq (.seq (.reg [sm 30 4, so 31 (.un .not (T 30))])
 (.cond (T 31)
 (.seq (.reg [so 2 (.mv (C 2))])
 .ret)
 .skip))
 (.seq (.seq (.reg [sm 32 3, sm 33 5, so 34 (.bin .add (T 32) (T 33)), so 35 (.bin .neq (T 34) (C 65535))])
 (.cond (T 35)
 (.seq (.reg [so 2 (.mv (C 3))])
 .ret)
 .skip))
 (.seq (.reg [sm 37 0, so 38 (.nilc (T 37)), so 39 (.faddr 0 (T 38)), so 40 (.load none (T 39)), sm 41 3, so 42 (.call true n_huff_Reader_Bytes [(T 40), (T 41)]), sm 36 42, so 43 (.ext (T 36) 0), so 44 (.ext (T 36) 1), sm 6 43, sm 4 44])
 (.seq (.seq (.reg [sm 45 4, so 46 (.un .not (T 45))])
 (.cond (T 46)
 (.seq (.reg [so 2 (.mv (C 2))])
 .ret)
 .skip))
 (.seq (.seq (.reg [sm 47 3, sm 48 0, so 49 (.call true n_inflate_unpacker_room [(T 48)]), so 50 (.bin .gtr (T 47) (T 49))])
 (.cond (T 50)
 (.seq (.reg [so 2 (.mv (C 4))])
 .ret)
 .skip))
 (.seq (.reg [sm 51 0, sm 52 0, so 53 (.nilc (T 52)), so 54 (.faddr 1 (T 53)), so 55 (.load none (T 54)), sm 56 6, so 57 (.app none 1 (T 55) (T 56)), so 58 (.nilc (T 51)), so 59 (.faddr 1 (T 58)), sn (.store none (T 59) (T 57))])
 (.seq (.reg [so 2 (.mv (C 0))])
 .ret))))))))))))
theorem e_inflate_unpacker_stored : slimC Tryz.prog 60 (Tryz.f56.body.getD .skip) = s_inflate_unpacker_stored := by kernel_rfl
theorem r_inflate_unpacker_stored : slimRes Tryz.prog Tryz.f56 = some [.tmp 2] := by kernel_rfl
def s_huff_Reader_left : SCode :=
 (.seq (.reg [so 2 (.mv (C 0))])
 (.seq (.reg [sm 3 0, so 4 (.nilc (T 3)), so 5 (.faddr 0 (T 4)), so 6 (.load none (T 5)), so 7 (.len false (T 6)), so 8 (.bin .mul (T 7) (C 8)), sm 9 0, so 10 (.nilc (T 9)), so 11 (.faddr 1 (T 10)), so 12 (.load none (T 11)), so 13 (.bin .sub (T 8) (T 12)), sm 2 13])
 .ret))
theorem e_huff_Reader_left : slimC Tryz.prog 14 (Tryz.f96.body.getD .skip) = s_huff_Reader_left := by kernel_rfl
theorem r_huff_Reader_left : slimRes Tryz.prog Tryz.f96 = some [.tmp 2] := by kernel_rfl
def s_huff_Reader_bit : SCode :=
 (.seq (.reg [so 2 (.mv (C 0))])
 (.seq (.reg [sm 4 0, so 5 (.nilc (T 4)), so 6 (.faddr 0 (T 5)), so 7 (.load none (T 6)), sm 8 0, so 9 (.nilc (T 8)), so 10 (.faddr 1 (T 9)), so 11 (.load none (T 10)), so 12 (.bin .quo (T 11) (C 8)), so 13 (.iaddr none (T 7) (T 12)), so 14 (.load none (T 13)), so 15 (.ci .i64 (T 14)), sm 16 0, so 17 (.nilc (T 16)), so 18 (.faddr 1 (T 17)), so 19 (.load none (T 18)), so 20 (.bin .rem (T 19) (C 8)), so 21 (.bin .shr (T 15) (T 20)), so 22 (.bin .and (T 21) (C 1)), sm 3 22])
 (.seq (.reg [sm 23 0, so 24 (.nilc (T 23)), so 25 (.faddr 1 (T 24)), so 26 (.load none (T 25)), so 27 (.bin .add (T 26) (C 1)), so 28 (.nilc (T 23)), so 29 (.faddr 1 (T 28)), sn (.store none (T 29) (T 27))])
 (.seq (.reg [sm 30 3, sm 2 30])
 .ret))))
theorem e_huff_Reader_bit : slimC Tryz.prog 31 (Tryz.f97.body.getD .skip) = s_huff_Reader_bit := by kernel_rfl
theorem r_huff_Reader_bit : slimRes Tryz.prog Tryz.f97 = some [.tmp 2] := by kernel_rfl
def s_huff_Reader_Align : SCode :=
 (.reg [sm 2 0, sm 3 0, so 4 (.nilc (T 3)), so 5 (.faddr 1 (T 4)), so 6 (.load none (T 5)), so 7 (.bin .add (T 6) (C 8)), so 8 (.bin .sub (T 7) (C 1)), so 9 (.bin .quo (T 8) (C 8)), so 10 (.bin .mul (T 9) (C 8)), so 11 (.nilc (T 2)), so 12 (.faddr 1 (T 11)), sn (.store none (T 12) (T 10))])
theorem e_huff_Reader_Align : slimC Tryz.prog 13 (Tryz.f98.body.getD .skip) = s_huff_Reader_Align := by kernel_rfl
theorem r_huff_Reader_Align : slimRes Tryz.prog Tryz.f98 = some [] := by kernel_rfl
def s_huff_Reader_Bytes : SCode :=
 (.seq (.reg [so 4 (.mv (.const (.slice none 0 0))), so 5 (.mv (.const (.bool false)))])
 (.seq (.reg [sm 7 0, so 8 (.call true n_huff_Reader_Align [(T 7)])])
 (.seq (.seq (.reg [sm 9 1, so 10 (.bin .lss (T 9) (C 0)), sm 11 10, sg 12 (.mv (T 1)) 11 false, sg 13 (.mv (T 0)) 11 false, sg 14 (.call true n_huff_Reader_left [(T 13)]) 11 false, sg 15 (.bin .quo (T 14) (C 8)) 11 false, sg 16 (.bin .gtr (T 12) (T 15)) 11 false, so 17 (.pick (T 11) (.const (.bool true)) (T 16))])
 (.cond (T 17)
 (.seq (.reg [so 4 (.mv (.const (.slice none 0 0))), so 5 (.mv (.const (.bool false)))])
 .ret)
 .skip))
 (.seq (.reg [sm 18 0, so 19 (.nilc (T 18)), so 20 (.faddr 1 (T 19)), so 21 (.load none (T 20)), so 22 (.bin .quo (T 21) (C 8)), sm 6 22])
 (.seq (.reg [sm 23 0, so 24 (.nilc (T 23)), so 25 (.faddr 1 (T 24)), so 26 (.load none (T 25)), sm 27 1, so 28 (.bin .mul (T 27) (C 8)), so 29 (.bin .add (T 26) (T 28)), so 30 (.nilc (T 23)), so 31 (.faddr 1 (T 30)), sn (.store none (T 31) (T 29))])
 (.seq (.reg [sm 32 0, so 33 (.nilc (T 32)), so 34 (.faddr 0 (T 33)), so 35 (.load none (T 34)), sm 36 6, sm 37 6, sm 38 1, so 39 (.bin .add (T 37) (T 38)), so 40 (.sl none (T 35) (some (T 36)) (some (T 39))), so 41 (.call true n_bytes_Clone [(T 40)]), sm 4 41, so 5 (.mv (.const (.bool true)))])
 .ret))))))
theorem e_huff_Reader_Bytes : slimC Tryz.prog 42 (Tryz.f99.body.getD .skip) = s_huff_Reader_Bytes := by kernel_rfl
theorem r_huff_Reader_Bytes : slimRes Tryz.prog Tryz.f99 = some [.tmp 4, .tmp 5] := by kernel_rfl
def s_inflate_unpacker_room : SCode :=
 (.seq (.reg [so 2 (.mv (C 0))])
 (.seq (.reg [sm 3 0, so 4 (.nilc (T 3)), so 5 (.faddr 2 (T 4)), so 6 (.load none (T 5)), sm 7 0, so 8 (.nilc (T 7)), so 9 (.faddr 1 (T 8)), so 10 (.load none (T 9)), so 11 (.len false (T 10)), so 12 (.bin .sub (T 6) (T 11)), sm 2 12])
 .ret))
theorem e_inflate_unpacker_room : slimC Tryz.prog 13 (Tryz.f100.body.getD .skip) = s_inflate_unpacker_room := by kernel_rfl
theorem r_inflate_unpacker_room : slimRes Tryz.prog Tryz.f100 = some [.tmp 2] := by kernel_rfl
def s_slices_Concatintint : SCode :=
 (.seq (.reg [so 2 (.mv (.const (.slice none 0 0)))])
 (.seq (.reg [so 3 (.mv (C 0))])
 (.seq (.seq (.reg [sm 9 0, so 10 (.len false (T 9)), so 11 (.mv (C 0))])
 (.block 0
 (.loop
 (.seq (.reg [so 12 (.bin .lss (T 11) (T 10))])
 (.seq (.cond (T 12)
 .skip
 (.exit 0))
 (.seq (.block 1
 (.seq (.reg [so 13 (.iaddr none (T 9) (T 11)), so 14 (.load none (T 13)), sm 5 14])
 (.seq (.reg [sm 15 3, sm 16 5, so 17 (.len false (T 16)), so 18 (.bin .add (T 15) (T 17)), sm 3 18])
 (.seq (.reg [sm 19 3, so 20 (.bin .lss (T 19) (C 0))])
 (.cond (T 20)
 (.reg [so 21 (.no), sn (.no)])
 .skip)))))
 (.reg [so 22 (.bin .add (T 11) (C 1)), sm 11 22])))))))
 (.seq (.reg [sm 23 3, so 24 (.call true n_slices_Growintint [(.const (.slice none 0 0)), (T 23)]), sm 6 24])
 (.seq (.seq (.reg [sm 25 0, so 26 (.len false (T 25)), so 27 (.mv (C 0))])
 (.block 2
 (.loop
 (.seq (.reg [so 28 (.bin .lss (T 27) (T 26))])
 (.seq (.cond (T 28)
 .skip
 (.exit 2))
 (.seq (.block 3
 (.seq (.reg [so 29 (.iaddr none (T 25) (T 27)), so 30 (.load none (T 29)), sm 8 30])
 (.reg [sm 31 6, sm 32 8, so 33 (.app none 8 (T 31) (T 32)), sm 6 33])))
 (.reg [so 34 (.bin .add (T 27) (C 1)), sm 27 34])))))))
 (.seq (.reg [sm 35 6, sm 2 35])
 .ret))))))
theorem e_slices_Concatintint : slimC Tryz.prog 36 (Tryz.f87.body.getD .skip) = s_slices_Concatintint := by kernel_rfl
theorem r_slices_Concatintint : slimRes Tryz.prog Tryz.f87 = some [.tmp 2] := by kernel_rfl
def s_slices_Repeatintint : SCode :=
 (.seq (.reg [so 4 (.mv (.const (.slice none 0 0)))])
 (.seq (.seq (.reg [sm 9 1, so 10 (.bin .lss (T 9) (C 0))])
 (.cond (T 10)
 (.reg [so 11 (.no), sn (.no)])
 .skip))
 (.seq (.reg [sm 13 0, so 14 (.len false (T 13)), so 15 (.ci .u64 (T 14)), sm 16 1, so 17 (.ci .u64 (T 16)), so 18 (.call true n_bits_Mul [(T 15), (T 17)]), sm 12 18, so 19 (.ext (T 12) 0), so 20 (.ext (T 12) 1), sm 5 19, sm 6 20])
 (.seq (.seq (.reg [sm 21 5, so 22 (.bin .gtr (T 21) (.const (.int .u64 (0)))), sm 23 22, sg 24 (.mv (T 6)) 23 false, sg 25 (.bin .gtr (T 24) (.const (.int .u64 (9223372036854775807)))) 23 false, so 26 (.pick (T 23) (.const (.bool true)) (T 25))])
 (.cond (T 26)
 (.reg [so 27 (.no), sn (.no)])
 .skip))
 (.seq (.reg [sm 28 6, so 29 (.ci .i64 (T 28)), so 30 (.mks none 8 [(.int .i64 (0))] (T 29) (T 29)), sm 7 30])
 (.seq (.reg [sm 31 7, sm 32 0, so 33 (.copy (T 31) (T 32)), sm 8 33])
 (.seq (.block 0
 (.loop
 (.seq (.seq (.reg [sm 34 8, sm 35 7, so 36 (.len false (T 35)), so 37 (.bin .lss (T 34) (T 36))])
 (.cond (T 37)
 .skip
 (.exit 0)))
 (.block 1
 (.reg [sm 38 8, sm 39 7, sm 40 8, so 41 (.sl none (T 39) (some (T 40)) none), sm 42 7, sm 43 8, so 44 (.sl none (T 42) none (some (T 43))), so 45 (.copy (T 41) (T 44)), so 46 (.bin .add (T 38) (T 45)), sm 8 46])))))
 (.seq (.reg [sm 47 7, sm 4 47])
 .ret))))))))
theorem e_slices_Repeatintint : slimC Tryz.prog 48 (Tryz.f88.body.getD .skip) = s_slices_Repeatintint := by kernel_rfl
theorem r_slices_Repeatintint : slimRes Tryz.prog Tryz.f88 = some [.tmp 4] := by kernel_rfl
def s_huff_Check : SCode :=
 (.seq (.reg [so 2 (.mv (C 0))])
 (.seq (.seq (.reg [sm 5 0, so 6 (.len false (T 5)), so 7 (.bin .gtr (T 6) (C 320))])
 (.cond (T 7)
 (.seq (.reg [so 2 (.mv (C 4))])
 .ret)
 .skip))
 (.seq (.seq (.reg [sm 8 0, so 9 (.len false (T 8)), so 10 (.mv (C 0))])
 (.block 0
 (.loop
 (.seq (.reg [so 11 (.bin .lss (T 10) (T 9))])
 (.seq (.cond (T 11)
 .skip
 (.exit 0))
 (.seq (.block 1
 (.seq (.reg [so 12 (.iaddr none (T 8) (T 10)), so 13 (.load none (T 12)), sm 4 13])
 (.seq (.reg [sm 14 4, so 15 (.bin .lss (T 14) (C 0)), sm 16 15, sg 17 (.mv (T 4)) 16 false, sg 18 (.bin .gtr (T 17) (C 15)) 16 false, so 19 (.pick (T 16) (.const (.bool true)) (T 18))])
 (.cond (T 19)
 (.seq (.reg [so 2 (.mv (C 1))])
 .ret)
 .skip))))
 (.reg [so 20 (.bin .add (T 10) (C 1)), sm 10 20])))))))
 (.seq (.seq (.reg [sm 21 0, so 22 (.call true n_huff_taken [(T 21)]), so 23 (.bin .gtr (T 22) (C 32768))])
 (.cond (T 23)
 (.seq (.reg [so 2 (.mv (C 3))])
 .ret)
 .skip))
 (.seq (.reg [so 2 (.mv (C 0))])
 .ret)))))
theorem e_huff_Check : slimC Tryz.prog 24 (Tryz.f132.body.getD .skip) = s_huff_Check := by kernel_rfl
theorem r_huff_Check : slimRes Tryz.prog Tryz.f132 = some [.tmp 2] := by kernel_rfl
def s_huff_firstRows : SCode :=
 (.seq (.reg [so 2 (.alloc (List.replicate 16 (.int .i64 (0))))])
 (.seq (.reg [so 3 (.alloc (List.replicate 16 (.int .i64 (0))))])
 (.seq (.seq (.reg [sm 8 0, so 9 (.len false (T 8)), so 10 (.mv (C 0))])
 (.block 0
 (.loop
 (.seq (.reg [so 11 (.bin .lss (T 10) (T 9))])
 (.seq (.cond (T 11)
 .skip
 (.exit 0))
 (.seq (.block 1
 (.seq (.reg [so 12 (.iaddr none (T 8) (T 10)), so 13 (.load none (T 12)), sm 5 13])
 (.reg [sm 14 5, so 15 (.iaddrA 16 none (T 3) (T 14)), so 16 (.load none (T 15)), so 17 (.bin .add (T 16) (C 1)), so 18 (.iaddrA 16 none (T 3) (T 14)), sn (.store none (T 18) (T 17))])))
 (.reg [so 19 (.bin .add (T 10) (C 1)), sm 10 19])))))))
 (.seq (.reg [so 20 (.iaddrA 16 none (T 3) (C 0)), sn (.store none (T 20) (C 0))])
 (.seq (.reg [so 6 (.alloc (List.replicate 16 (.int .i64 (0))))])
 (.seq (.seq (.reg [so 21 (.mv (C 0))])
 (.block 2
 (.loop
 (.seq (.reg [so 22 (.bin .lss (T 21) (C 15))])
 (.seq (.cond (T 22)
 .skip
 (.exit 2))
 (.seq (.block 3
 (.seq (.reg [sm 23 21, sm 7 23])
 (.reg [sm 24 7, so 25 (.bin .add (T 24) (C 1)), sm 26 7, so 27 (.iaddrA 16 none (T 6) (T 26)), so 28 (.load none (T 27)), sm 29 7, so 30 (.iaddrA 16 none (T 3) (T 29)), so 31 (.load none (T 30)), so 32 (.bin .add (T 28) (T 31)), so 33 (.bin .shl (T 32) (.const (.int .u64 (1)))), so 34 (.iaddrA 16 none (T 6) (T 25)), sn (.store none (T 34) (T 33))])))
 (.reg [so 35 (.bin .add (T 21) (C 1)), sm 21 35])))))))
 (.seq (.reg [so 36 (.load (some 16) (T 6)), sn (.store (some 16) (T 2) (T 36))])
 .ret)))))))
theorem e_huff_firstRows : slimC Tryz.prog 37 (Tryz.f133.body.getD .skip) = s_huff_firstRows := by kernel_rfl
theorem r_huff_firstRows : slimRes Tryz.prog Tryz.f133 = some [.cell 2 (some 16)] := by kernel_rfl
def s_huff_taken : SCode :=
 (.seq (.reg [so 2 (.mv (C 0))])
 (.seq (.reg [so 3 (.mv (C 0))])
 (.seq (.seq (.reg [sm 6 0, so 7 (.len false (T 6)), so 8 (.mv (C 0))])
 (.block 0
 (.loop
 (.seq (.reg [so 9 (.bin .lss (T 8) (T 7))])
 (.seq (.cond (T 9)
 .skip
 (.exit 0))
 (.seq (.block 1
 (.seq (.reg [so 10 (.iaddr none (T 6) (T 8)), so 11 (.load none (T 10)), sm 5 11])
 (.seq (.reg [sm 12 5, so 13 (.bin .gtr (T 12) (C 0))])
 (.cond (T 13)
 (.reg [sm 14 3, sm 15 5, so 16 (.bin .shr (C 32768) (T 15)), so 17 (.bin .add (T 14) (T 16)), sm 3 17])
 .skip))))
 (.reg [so 18 (.bin .add (T 8) (C 1)), sm 8 18])))))))
 (.seq (.reg [sm 19 3, sm 2 19])
 .ret))))
theorem e_huff_taken : slimC Tryz.prog 20 (Tryz.f134.body.getD .skip) = s_huff_taken := by kernel_rfl
theorem r_huff_taken : slimRes Tryz.prog Tryz.f134 = some [.tmp 2] := by kernel_rfl
def s_slices_Growintint : SCode :=
 (.seq (.reg [so 4 (.mv (.const (.slice none 0 0)))])
 (.seq (.seq (.reg [sm 5 1, so 6 (.bin .lss (T 5) (C 0))])
 (.cond (T 6)
 (.reg [so 7 (.no), sn (.no)])
 .skip))
 (.seq (.seq (.reg [sm 8 1, sm 9 0, so 10 (.capn (T 9)), sm 11 0, so 12 (.len false (T 11)), so 13 (.bin .sub (T 10) (T 12)), so 14 (.bin .sub (T 8) (T 13)), sm 1 14])
 (.seq (.reg [sm 15 1, so 16 (.bin .gtr (T 15) (C 0))])
 (.cond (T 16)
 (.reg [sm 17 0, sm 18 0, so 19 (.capn (T 18)), so 20 (.sl none (T 17) none (some (T 19))), sm 21 1, so 22 (.appz none 8 [(.int .i64 (0))] (T 20) (T 21)), sm 23 0, so 24 (.len false (T 23)), so 25 (.sl none (T 22) none (some (T 24))), sm 0 25])
 .skip)))
 (.seq (.reg [sm 26 0, sm 4 26])
 .ret))))
theorem e_slices_Growintint : slimC Tryz.prog 27 (Tryz.f125.body.getD .skip) = s_slices_Growintint := by kernel_rfl
theorem r_slices_Growintint : slimRes Tryz.prog Tryz.f125 = some [.tmp 4] := by kernel_rfl
def s_bits_Mul : SCode :=
 (.seq (.reg [so 4 (.mv (.const (.int .u64 (0)))), so 5 (.mv (.const (.int .u64 (0))))])
 (.seq (.cond (.const (.bool false))
 (.seq (.reg [sm 11 0, so 12 (.ci .u32 (T 11)), sm 13 1, so 14 (.ci .u32 (T 13)), so 15 (.call true n_bits_Mul32 [(T 12), (T 14)]), sm 10 15, so 16 (.ext (T 10) 0), so 17 (.ext (T 10) 1), sm 6 16, sm 7 17])
 (.seq (.reg [sm 18 6, so 19 (.ci .u64 (T 18)), sm 20 7, so 21 (.ci .u64 (T 20)), sm 4 19, sm 5 21])
 .ret))
 .skip)
 (.seq (.reg [sm 23 0, sm 24 1, so 25 (.call true n_bits_Mul64 [(T 23), (T 24)]), sm 22 25, so 26 (.ext (T 22) 0), so 27 (.ext (T 22) 1), sm 8 26, sm 9 27])
 (.seq (.reg [sm 28 8, sm 29 9, sm 4 28, sm 5 29])
 .ret))))
theorem e_bits_Mul : slimC Tryz.prog 30 (Tryz.f126.body.getD .skip) = s_bits_Mul := by kernel_rfl
theorem r_bits_Mul : slimRes Tryz.prog Tryz.f126 = some [.tmp 4, .tmp 5] := by kernel_rfl
def s_bits_Mul64 : SCode :=
 (.seq (.reg [so 4 (.mv (.const (.int .u64 (0)))), so 5 (.mv (.const (.int .u64 (0))))])
 (.seq (.reg [sm 14 0, so 15 (.bin .and (T 14) (.const (.int .u64 (4294967295)))), sm 6 15])
 (.seq (.reg [sm 16 0, so 17 (.bin .shr (T 16) (.const (.int .u64 (32)))), sm 7 17])
 (.seq (.reg [sm 18 1, so 19 (.bin .and (T 18) (.const (.int .u64 (4294967295)))), sm 8 19])
 (.seq (.reg [sm 20 1, so 21 (.bin .shr (T 20) (.const (.int .u64 (32)))), sm 9 21])
 (.seq (.reg [sm 22 6, sm 23 8, so 24 (.bin .mul (T 22) (T 23)), sm 10 24])
 (.seq (.reg [sm 25 7, sm 26 8, so 27 (.bin .mul (T 25) (T 26)), sm 28 10, so 29 (.bin .shr (T 28) (.const (.int .u64 (32)))), so 30 (.bin .add (T 27) (T 29)), sm 11 30])
 (.seq (.reg [sm 31 11, so 32 (.bin .and (T 31) (.const (.int .u64 (4294967295)))), sm 12 32])
 (.seq (.reg [sm 33 11, so 34 (.bin .shr (T 33) (.const (.int .u64 (32)))), sm 13 34])
 (.seq (.reg [sm 35 12, sm 36 6, sm 37 9, so 38 (.bin .mul (T 36) (T 37)), so 39 (.bin .add (T 35) (T 38)), sm 12 39])
 (.seq (.reg [sm 40 7, sm 41 9, so 42 (.bin .mul (T 40) (T 41)), sm 43 13, so 44 (.bin .add (T 42) (T 43)), sm 45 12, so 46 (.bin .shr (T 45) (.const (.int .u64 (32)))), so 47 (.bin .add (T 44) (T 46)), sm 4 47])
 (.seq (.reg [sm 48 0, sm 49 1, so 50 (.bin .mul (T 48) (T 49)), sm 5 50])
 .ret))))))))))))
theorem e_bits_Mul64 : slimC Tryz.prog 51 (Tryz.f148.body.getD .skip) = s_bits_Mul64 := by kernel_rfl
theorem r_bits_Mul64 : slimRes Tryz.prog Tryz.f148 = some [.tmp 4, .tmp 5] := by kernel_rfl
def s_huff_NewWriter : SCode :=
 (.seq (.reg [so 0 (.mv (.const (.pointer none)))])
 (.seq (.reg [so 1 (.build [(.slice none 0 0), (.int .i64 (0))] []), so 2 (.box (T 1)), sm 0 2])
 .ret))
theorem e_huff_NewWriter : slimC Tryz.prog 3 (Tryz.f19.body.getD .skip) = s_huff_NewWriter := by kernel_rfl
theorem r_huff_NewWriter : slimRes Tryz.prog Tryz.f19 = some [.tmp 0] := by kernel_rfl
def s_deflate_packer_stored : SCode :=
 (.seq (.reg [so 2 (.box (T 0))])
 (.seq (.block 0
 (.loop
 (.seq (.seq (.reg [sm 4 1, so 5 (.len false (T 4)), so 6 (.bin .gtr (T 5) (C 65535))])
 (.cond (T 6)
 .skip
 (.exit 0)))
 (.block 1
 (.seq (.reg [so 7 (.load (some 1) (T 2)), sm 8 1, so 9 (.sl none (T 8) none (some (C 65535))), so 10 (.call true n_deflate_packer_storedBlock [(T 7), (C 0), (T 9)])])
 (.reg [sm 11 1, so 12 (.sl none (T 11) (some (C 65535)) none), sm 1 12]))))))
 (.reg [so 13 (.load (some 1) (T 2)), sm 14 1, so 15 (.call true n_deflate_packer_storedBlock [(T 13), (C 1), (T 14)])])))
theorem e_deflate_packer_stored : slimC Tryz.prog 16 (Tryz.f20.body.getD .skip) = s_deflate_packer_stored := by kernel_rfl
theorem r_deflate_packer_stored : slimRes Tryz.prog Tryz.f20 = some [] := by kernel_rfl
def s_deflate_packer_fixed : SCode :=
 (.seq (.reg [so 2 (.box (T 0))])
 (.seq (.reg [so 4 (.load (some 1) (T 2)), so 5 (.call true n_deflate_packer_begin [(T 4), (C 1), (C 1)])])
 (.reg3 [so 6 (.load (some 1) (T 2)), sm 7 1, so 8 (.call true n_deflate_fixedCodes [])]
 [((some 1), (T 2), 6)]
 [so 9 (.call true n_deflate_packer_pieces [(T 6), (T 7), (T 8)])])))
theorem e_deflate_packer_fixed : slimC Tryz.prog 10 (Tryz.f21.body.getD .skip) = s_deflate_packer_fixed := by kernel_rfl
theorem r_deflate_packer_fixed : slimRes Tryz.prog Tryz.f21 = some [] := by kernel_rfl
def s_deflate_piecesOf : SCode :=
 (.seq (.reg [so 1 (.box (T 0)), so 2 (.mv (.const (.slice none 0 0)))])
 (.seq (.reg [so 3 (.alloc [(.slice none 0 0)])])
 (.seq (.reg [so 4 (.alloc [(.int .i64 (0))]), sn (.store none (T 4) (C 0))])
 (.seq (.reg [so 6 (.mkf n_deflate_piecesOf_1 [(T 1), (T 4), (T 3)]), so 5 (.alloc [.nilFunc]), sn (.store none (T 5) (T 6))])
 (.seq (.reg [so 7 (.load none (T 1)), so 8 (.mkf n_deflate_piecesOf_2 [(T 5), (T 3), (T 4)]), so 9 (.call true n_deflate_eachRun [(T 7), (T 8)])])
 (.seq (.reg [so 10 (.load none (T 5)), so 11 (.load none (T 1)), so 12 (.len false (T 11)), so 13 (.callv true (T 10) [(T 12)])])
 (.seq (.reg [so 14 (.load none (T 3)), sm 2 14])
 .ret)))))))
theorem e_deflate_piecesOf : slimC Tryz.prog 15 (Tryz.f22.body.getD .skip) = s_deflate_piecesOf := by kernel_rfl
theorem r_deflate_piecesOf : slimRes Tryz.prog Tryz.f22 = some [.tmp 2] := by kernel_rfl
def s_deflate_packer_dynamic : SCode :=
 (.seq (.reg [so 2 (.box (T 0))])
 (.seq (.reg [sm 5 1, so 6 (.call true n_deflate_bestCodes [(T 5)]), so 4 (.alloc [(.slice none 0 0), (.slice none 0 0), (.slice none 0 0), (.slice none 0 0)]), sn (.store (some 4) (T 4) (T 6))])
 (.seq (.reg [so 7 (.load (some 1) (T 2)), so 8 (.call true n_deflate_packer_begin [(T 7), (C 1), (C 2)])])
 (.seq (.reg [so 9 (.load (some 1) (T 2)), so 10 (.load (some 4) (T 4)), so 11 (.call true n_deflate_packer_tell [(T 9), (T 10)])])
 (.reg [so 12 (.load (some 1) (T 2)), sm 13 1, so 14 (.load (some 4) (T 4)), so 15 (.call true n_deflate_packer_pieces [(T 12), (T 13), (T 14)])])))))
theorem e_deflate_packer_dynamic : slimC Tryz.prog 16 (Tryz.f23.body.getD .skip) = s_deflate_packer_dynamic := by kernel_rfl
theorem r_deflate_packer_dynamic : slimRes Tryz.prog Tryz.f23 = some [] := by kernel_rfl
def s_huff_Writer_Bytes : SCode :=
 (.seq (.reg [so 2 (.mv (.const (.slice none 0 0)))])
 (.seq (.reg [sm 3 0, so 4 (.nilc (T 3)), so 5 (.faddr 0 (T 4)), so 6 (.load none (T 5)), so 7 (.call true n_bytes_Clone [(T 6)]), sm 2 7])
 .ret))
theorem e_huff_Writer_Bytes : slimC Tryz.prog 8 (Tryz.f24.body.getD .skip) = s_huff_Writer_Bytes := by kernel_rfl
theorem r_huff_Writer_Bytes : slimRes Tryz.prog Tryz.f24 = some [.tmp 2] := by kernel_rfl
def s_drayageref01_Turned : SCode :=
 (.seq (.reg [so 2 (.mv (.const (.slice none 0 0)))])
 (.seq (.reg [so 3 (.mv (.const (.slice none 0 0)))])
 (.seq (.seq (.reg [sm 5 0, so 6 (.len false (T 5)), so 7 (.bin .sub (T 6) (C 1)), sm 4 7])
 (.block 0
 (.loop
 (.seq (.seq (.reg [sm 8 4, so 9 (.bin .geq (T 8) (C 0))])
 (.cond (T 9)
 .skip
 (.exit 0)))
 (.seq (.block 1
 (.reg [sm 12 3, sm 13 0, sm 14 4, so 15 (.iaddr none (T 13) (T 14)), so 16 (.load none (T 15)), so 17 (.bslice none [(T 16)]), so 18 (.app none 1 (T 12) (T 17)), sm 3 18]))
 (.reg [sm 10 4, so 11 (.bin .sub (T 10) (C 1)), sm 4 11]))))))
 (.seq (.reg [sm 19 3, sm 2 19])
 .ret))))
theorem e_drayageref01_Turned : slimC Tryz.prog 20 (Tryz.f71.body.getD .skip) = s_drayageref01_Turned := by kernel_rfl
theorem r_drayageref01_Turned : slimRes Tryz.prog Tryz.f71 = some [.tmp 2] := by kernel_rfl
def s_drayageref01_Be : SCode :=
 (.seq (.reg [so 4 (.mv (.const (.slice none 0 0)))])
 (.seq (.seq (.reg [sm 7 1, so 8 (.bin .lss (T 7) (C 1)), sm 9 8, sg 10 (.mv (T 1)) 9 false, sg 11 (.bin .gtr (T 10) (C 8)) 9 false, so 12 (.pick (T 9) (.const (.bool true)) (T 11))])
 (.cond (T 12)
 (.seq (.reg [so 4 (.mv (.const (.slice none 0 0)))])
 .ret)
 .skip))
 (.seq (.reg [so 5 (.mv (.const (.slice none 0 0)))])
 (.seq (.seq (.reg [so 6 (.mv (C 0))])
 (.block 0
 (.loop
 (.seq (.seq (.reg [sm 13 6, sm 14 1, so 15 (.bin .lss (T 13) (T 14))])
 (.cond (T 15)
 .skip
 (.exit 0)))
 (.seq (.block 1
 (.seq (.reg [sm 18 0, so 19 (.bin .rem (T 18) (.const (.int .u64 (256)))), so 20 (.ci .u8 (T 19)), so 21 (.bsl none [(T 20)]), sm 22 5, so 23 (.app none 1 (T 21) (T 22)), sm 5 23])
 (.reg [sm 24 0, so 25 (.bin .quo (T 24) (.const (.int .u64 (256)))), sm 0 25])))
 (.reg [sm 16 6, so 17 (.bin .add (T 16) (C 1)), sm 6 17]))))))
 (.seq (.reg [sm 26 5, sm 4 26])
 .ret)))))
theorem e_drayageref01_Be : slimC Tryz.prog 27 (Tryz.f72.body.getD .skip) = s_drayageref01_Be := by kernel_rfl
theorem r_drayageref01_Be : slimRes Tryz.prog Tryz.f72 = some [.tmp 4] := by kernel_rfl
def s_deflate_packer_storedBlock : SCode :=
 (.seq (.reg [so 3 (.box (T 0))])
 (.seq (.reg [so 6 (.load (some 1) (T 3)), sm 7 1, so 8 (.call true n_deflate_packer_begin [(T 6), (T 7), (C 0)])])
 (.seq (.reg [so 9 (.faddr 0 (T 3)), so 10 (.load none (T 9)), so 11 (.call true n_huff_Writer_Align [(T 10)])])
 (.seq (.reg [so 12 (.faddr 0 (T 3)), so 13 (.load none (T 12)), sm 14 2, so 15 (.len false (T 14)), so 16 (.call true n_huff_Writer_Put [(T 13), (T 15), (C 16)])])
 (.seq (.reg [so 17 (.faddr 0 (T 3)), so 18 (.load none (T 17)), sm 19 2, so 20 (.len false (T 19)), so 21 (.bin .sub (C 65535) (T 20)), so 22 (.call true n_huff_Writer_Put [(T 18), (T 21), (C 16)])])
 (.reg [so 23 (.faddr 0 (T 3)), so 24 (.load none (T 23)), sm 25 2, so 26 (.call true n_huff_Writer_Raw [(T 24), (T 25)])]))))))
theorem e_deflate_packer_storedBlock : slimC Tryz.prog 27 (Tryz.f45.body.getD .skip) = s_deflate_packer_storedBlock := by kernel_rfl
theorem r_deflate_packer_storedBlock : slimRes Tryz.prog Tryz.f45 = some [] := by kernel_rfl
def s_deflate_packer_begin : SCode :=
 (.seq (.reg [so 3 (.box (T 0))])
 (.seq (.reg [so 6 (.faddr 0 (T 3)), so 7 (.load none (T 6)), sm 8 1, so 9 (.call true n_huff_Writer_Put [(T 7), (T 8), (C 1)])])
 (.reg [so 10 (.faddr 0 (T 3)), so 11 (.load none (T 10)), sm 12 2, so 13 (.call true n_huff_Writer_Put [(T 11), (T 12), (C 2)])])))
theorem e_deflate_packer_begin : slimC Tryz.prog 14 (Tryz.f46.body.getD .skip) = s_deflate_packer_begin := by kernel_rfl
theorem r_deflate_packer_begin : slimRes Tryz.prog Tryz.f46 = some [] := by kernel_rfl
def s_deflate_packer_pieces : SCode :=
 (.seq (.reg [so 3 (.box (T 0)), so 5 (.box (T 2))])
 (.seq (.seq (.reg [sm 8 1, so 9 (.len false (T 8)), so 10 (.mv (C 0))])
 (.block 0
 (.loop
 (.seq (.reg [so 11 (.bin .lss (T 10) (T 9))])
 (.seq (.cond (T 11)
 .skip
 (.exit 0))
 (.seq (.block 1
 (.seq (.reg [so 12 (.iaddr (some 2) (T 8) (T 10)), so 13 (.load (some 2) (T 12)), so 7 (.alloc [(.int .u16 (0)), (.int .u16 (0))]), sn (.store (some 2) (T 7) (T 13))])
 (.seq (.reg3 [so 14 (.load (some 1) (T 3)), so 15 (.faddr 0 (T 5)), so 16 (.load (some 2) (T 15)), so 17 (.load (some 2) (T 7)), so 18 (.call true n_deflate_piece_literal [(T 17)])]
 [((some 1), (T 3), 14), ((some 2), (T 15), 16)]
 [so 19 (.call true n_deflate_packer_symbol [(T 14), (T 16), (T 18)])])
 (.seq (.reg [so 20 (.load (some 2) (T 7)), so 21 (.call true n_deflate_piece_isRun [(T 20)])])
 (.cond (T 21)
 (.reg3 [so 22 (.load (some 1) (T 3)), so 23 (.faddr 2 (T 5)), so 24 (.load (some 2) (T 23)), so 25 (.load (some 2) (T 7)), so 26 (.call true n_deflate_piece_distance [(T 25)])]
 [((some 1), (T 3), 22), ((some 2), (T 23), 24)]
 [so 27 (.call true n_deflate_packer_symbol [(T 22), (T 24), (T 26)])])
 .skip)))))
 (.reg [so 28 (.bin .add (T 10) (C 1)), sm 10 28])))))))
 (.reg [so 29 (.load (some 1) (T 3)), so 30 (.faddr 0 (T 5)), so 31 (.load (some 2) (T 30)), so 32 (.build [(.int .i64 (0)), (.int .i64 (0)), (.int .i64 (0))] [(0, 1, (C 256))]), so 33 (.call true n_deflate_packer_symbol [(T 29), (T 31), (T 32)])])))
theorem e_deflate_packer_pieces : slimC Tryz.prog 34 (Tryz.f47.body.getD .skip) = s_deflate_packer_pieces := by kernel_rfl
theorem r_deflate_packer_pieces : slimRes Tryz.prog Tryz.f47 = some [] := by kernel_rfl
def s_deflate_fixedCodes : SCode :=
 (.seq (.reg [so 0 (.alloc [(.slice none 0 0), (.slice none 0 0), (.slice none 0 0), (.slice none 0 0)])])
 (.seq (.reg [so 1 (.bsl none [(C 8)]), so 2 (.call true n_slices_Repeatintint [(T 1), (C 144)]), so 3 (.bsl none [(C 9)]), so 4 (.call true n_slices_Repeatintint [(T 3), (C 112)]), so 5 (.bsl none [(C 7)]), so 6 (.call true n_slices_Repeatintint [(T 5), (C 24)]), so 7 (.bsl none [(C 8)]), so 8 (.call true n_slices_Repeatintint [(T 7), (C 8)]), so 9 (.bslice none [(T 2), (T 4), (T 6), (T 8)]), so 10 (.call true n_slices_Concatintint [(T 9)]), so 11 (.call true n_deflate_codeOf [(T 10)]), so 12 (.bsl none [(C 5)]), so 13 (.call true n_slices_Repeatintint [(T 12), (C 32)]), so 14 (.call true n_deflate_codeOf [(T 13)]), so 15 (.build [(.slice none 0 0), (.slice none 0 0), (.slice none 0 0), (.slice none 0 0)] [(0, 2, (T 11)), (2, 2, (T 14))]), sn (.store (some 4) (T 0) (T 15))])
 .ret))
theorem e_deflate_fixedCodes : slimC Tryz.prog 16 (Tryz.f48.body.getD .skip) = s_deflate_fixedCodes := by kernel_rfl
theorem r_deflate_fixedCodes : slimRes Tryz.prog Tryz.f48 = some [.cell 0 (some 4)] := by kernel_rfl
def s_deflate_piecesOf_1 : SCode :=
 (.seq (.reg [so 7 (.load none (T 1)), so 8 (.load none (T 2)), sm 9 0, so 10 (.sl none (T 7) (some (T 8)) (some (T 9))), so 11 (.len false (T 10)), so 12 (.mv (C 0))])
 (.block 0
 (.loop
 (.seq (.reg [so 13 (.bin .lss (T 12) (T 11))])
 (.seq (.cond (T 13)
 .skip
 (.exit 0))
 (.seq (.block 1
 (.seq (.reg [so 14 (.iaddr none (T 10) (T 12)), so 15 (.load none (T 14)), sm 6 15])
 (.reg [so 16 (.load none (T 3)), sm 17 6, so 18 (.ci .u16 (T 17)), so 19 (.build [(.int .u16 (0)), (.int .u16 (0))] [(0, 1, (T 18))]), so 20 (.bslice (some 2) [(T 19)]), so 21 (.app (some 2) 4 (T 16) (T 20)), sn (.store none (T 3) (T 21))])))
 (.reg [so 22 (.bin .add (T 12) (C 1)), sm 12 22])))))))
theorem e_deflate_piecesOf_1 : slimC Tryz.prog 23 (Tryz.f49.body.getD .skip) = s_deflate_piecesOf_1 := by kernel_rfl
theorem r_deflate_piecesOf_1 : slimRes Tryz.prog Tryz.f49 = some [] := by kernel_rfl
def s_deflate_eachRun : SCode :=
 (.seq (.reg [sm 8 0, so 9 (.call true n_deflate_newFinder [(T 8)]), sm 4 9])
 (.seq (.reg [so 5 (.mv (C 0))])
 (.block 0
 (.loop
 (.seq (.seq (.reg [sm 10 5, sm 11 0, so 12 (.len false (T 11)), so 13 (.bin .lss (T 10) (T 12))])
 (.cond (T 13)
 .skip
 (.exit 0)))
 (.block 1
 (.seq (.reg [sm 15 4, sm 16 5, so 17 (.call true n_deflate_finder_longest [(T 15), (T 16)]), sm 14 17, so 18 (.ext (T 14) 0), so 19 (.ext (T 14) 1), sm 6 18, sm 7 19])
 (.seq (.seq (.reg [sm 20 6, so 21 (.bin .gtr (T 20) (C 0))])
 (.cond (T 21)
 (.reg [sm 22 1, sm 23 5, sm 24 6, sm 25 7, so 26 (.callv true (T 22) [(T 23), (T 24), (T 25)])])
 .skip))
 (.seq (.reg [sm 27 6, so 28 (.mm true (T 27) [(C 1)]), so 29 (.mv (C 0))])
 (.block 2
 (.loop
 (.seq (.reg [so 30 (.bin .lss (T 29) (T 28))])
 (.seq (.cond (T 30)
 .skip
 (.exit 2))
 (.seq (.block 3
 (.seq (.reg [sm 31 4, sm 32 5, so 33 (.call true n_deflate_finder_add [(T 31), (T 32)])])
 (.reg [sm 34 5, so 35 (.bin .add (T 34) (C 1)), sm 5 35])))
 (.reg [so 36 (.bin .add (T 29) (C 1)), sm 29 36])))))))))))))))
theorem e_deflate_eachRun : slimC Tryz.prog 37 (Tryz.f50.body.getD .skip) = s_deflate_eachRun := by kernel_rfl
theorem r_deflate_eachRun : slimRes Tryz.prog Tryz.f50 = some [] := by kernel_rfl
def s_deflate_piecesOf_2 : SCode :=
 (.seq (.reg [so 9 (.load none (T 3)), sm 10 0, so 11 (.callv true (T 9) [(T 10)])])
 (.seq (.reg [so 12 (.load none (T 4)), sm 13 1, so 14 (.ci .u16 (T 13)), sm 15 2, so 16 (.ci .u16 (T 15)), so 17 (.build [(.int .u16 (0)), (.int .u16 (0))] [(0, 1, (T 14)), (1, 1, (T 16))]), so 18 (.bslice (some 2) [(T 17)]), so 19 (.app (some 2) 4 (T 12) (T 18)), sn (.store none (T 4) (T 19))])
 (.reg [sm 20 0, sm 21 1, so 22 (.bin .add (T 20) (T 21)), sn (.store none (T 5) (T 22))])))
theorem e_deflate_piecesOf_2 : slimC Tryz.prog 23 (Tryz.f51.body.getD .skip) = s_deflate_piecesOf_2 := by kernel_rfl
theorem r_deflate_piecesOf_2 : slimRes Tryz.prog Tryz.f51 = some [] := by kernel_rfl
def s_deflate_bestCodes : SCode :=
 (.seq (.reg [so 2 (.alloc [(.slice none 0 0), (.slice none 0 0), (.slice none 0 0), (.slice none 0 0)])])
 (.seq (.reg2 [so 7 (.mks none 8 [(.int .i64 (0))] (C 286) (C 286)), so 8 (.mks none 8 [(.int .i64 (0))] (C 30) (C 30)), sm 3 7, sm 4 8])
 (.seq (.seq (.reg [sm 9 0, so 10 (.len false (T 9)), so 11 (.mv (C 0))])
 (.block 0
 (.loop
 (.seq (.reg [so 12 (.bin .lss (T 11) (T 10))])
 (.seq (.cond (T 12)
 .skip
 (.exit 0))
 (.seq (.block 1
 (.seq (.reg [so 13 (.iaddr (some 2) (T 9) (T 11)), so 14 (.load (some 2) (T 13)), so 6 (.alloc [(.int .u16 (0)), (.int .u16 (0))]), sn (.store (some 2) (T 6) (T 14))])
 (.seq (.reg [sm 15 3, so 16 (.load (some 2) (T 6)), so 17 (.call true n_deflate_piece_literal [(T 16)]), so 18 (.fld 0 none (T 17)), so 19 (.iaddr none (T 15) (T 18)), so 20 (.load none (T 19)), so 21 (.bin .add (T 20) (C 1)), so 22 (.iaddr none (T 15) (T 18)), sn (.store none (T 22) (T 21))])
 (.seq (.reg [so 23 (.load (some 2) (T 6)), so 24 (.call true n_deflate_piece_isRun [(T 23)])])
 (.cond (T 24)
 (.reg [sm 25 4, so 26 (.load (some 2) (T 6)), so 27 (.call true n_deflate_piece_distance [(T 26)]), so 28 (.fld 0 none (T 27)), so 29 (.iaddr none (T 25) (T 28)), so 30 (.load none (T 29)), so 31 (.bin .add (T 30) (C 1)), so 32 (.iaddr none (T 25) (T 28)), sn (.store none (T 32) (T 31))])
 .skip)))))
 (.reg [so 33 (.bin .add (T 11) (C 1)), sm 11 33])))))))
 (.seq (.reg [sm 34 3, so 35 (.iaddr none (T 34) (C 256)), so 36 (.load none (T 35)), so 37 (.bin .add (T 36) (C 1)), so 38 (.iaddr none (T 34) (C 256)), sn (.store none (T 38) (T 37))])
 (.seq (.seq (.reg [sm 39 0, so 40 (.len false (T 39)), so 41 (.bin .eql (T 40) (C 0))])
 (.cond (T 41)
 (.reg [sm 42 3, so 43 (.iaddr none (T 42) (C 0)), so 44 (.load none (T 43)), so 45 (.bin .add (T 44) (C 1)), so 46 (.iaddr none (T 42) (C 0)), sn (.store none (T 46) (T 45))])
 .skip))
 (.seq (.reg [sm 47 3, so 48 (.call true n_deflate_bestCode [(T 47), (C 15)]), sm 49 4, so 50 (.call true n_deflate_bestCode [(T 49), (C 15)]), so 51 (.build [(.slice none 0 0), (.slice none 0 0), (.slice none 0 0), (.slice none 0 0)] [(0, 2, (T 48)), (2, 2, (T 50))]), sn (.store (some 4) (T 2) (T 51))])
 .ret))))))
theorem e_deflate_bestCodes : slimC Tryz.prog 52 (Tryz.f52.body.getD .skip) = s_deflate_bestCodes := by kernel_rfl
theorem r_deflate_bestCodes : slimRes Tryz.prog Tryz.f52 = some [.cell 2 (some 4)] := by kernel_rfl
def s_deflate_packer_tell : SCode :=
 (.seq (.reg [so 2 (.box (T 0)), so 3 (.box (T 1))])
 (.seq (.reg [so 15 (.faddr 0 (T 3)), so 16 (.faddr 0 (T 15)), so 17 (.load none (T 16)), so 18 (.call false n_deflate_cut [(T 17), (C 257)]), so 19 (.faddr 2 (T 3)), so 20 (.faddr 0 (T 19)), so 21 (.load none (T 20)), so 22 (.call true n_deflate_cut [(T 21), (C 1)]), sm 4 18, sm 5 22])
 (.seq (.reg [sm 23 4, sm 24 5, so 25 (.bsl none [(T 23), (T 24)]), so 26 (.call true n_slices_Concatintint [(T 25)]), so 27 (.call true n_deflate_tellsOf [(T 26)]), sm 6 27])
 (.seq (.reg [sm 28 6, so 29 (.call true n_deflate_bestTeller [(T 28)]), so 7 (.alloc [(.slice none 0 0), (.slice none 0 0)]), sn (.store (some 2) (T 7) (T 29))])
 (.seq (.reg [so 8 (.mv (.const (.slice none 0 0)))])
 (.seq (.seq (.reg [so 30 (.load (some 19) (.global 0)), so 31 (.mv (C 0))])
 (.block 0
 (.loop
 (.seq (.reg [so 32 (.bin .lss (T 31) (C 19))])
 (.seq (.cond (T 32)
 .skip
 (.exit 0))
 (.seq (.block 1
 (.seq (.reg [so 33 (.idxA 19 none (T 30) (T 31)), sm 10 33])
 (.reg [sm 34 8, so 35 (.faddr 0 (T 7)), so 36 (.load none (T 35)), sm 37 10, so 38 (.iaddr none (T 36) (T 37)), so 39 (.load none (T 38)), so 40 (.bslice none [(T 39)]), so 41 (.app none 8 (T 34) (T 40)), sm 8 41])))
 (.reg [so 42 (.bin .add (T 31) (C 1)), sm 31 42])))))))
 (.seq (.reg [sm 43 8, so 44 (.call true n_deflate_cut [(T 43), (C 4)]), sm 8 44])
 (.seq (.reg [so 45 (.faddr 0 (T 2)), so 46 (.load none (T 45)), sm 47 4, so 48 (.len false (T 47)), so 49 (.bin .sub (T 48) (C 257)), so 50 (.call true n_huff_Writer_Put [(T 46), (T 49), (C 5)])])
 (.seq (.reg [so 51 (.faddr 0 (T 2)), so 52 (.load none (T 51)), sm 53 5, so 54 (.len false (T 53)), so 55 (.bin .sub (T 54) (C 1)), so 56 (.call true n_huff_Writer_Put [(T 52), (T 55), (C 5)])])
 (.seq (.reg [so 57 (.faddr 0 (T 2)), so 58 (.load none (T 57)), sm 59 8, so 60 (.len false (T 59)), so 61 (.bin .sub (T 60) (C 4)), so 62 (.call true n_huff_Writer_Put [(T 58), (T 61), (C 4)])])
 (.seq (.seq (.reg [sm 63 8, so 64 (.len false (T 63)), so 65 (.mv (C 0))])
 (.block 2
 (.loop
 (.seq (.reg [so 66 (.bin .lss (T 65) (T 64))])
 (.seq (.cond (T 66)
 .skip
 (.exit 2))
 (.seq (.block 3
 (.seq (.reg [so 67 (.iaddr none (T 63) (T 65)), so 68 (.load none (T 67)), sm 12 68])
 (.reg [so 69 (.faddr 0 (T 2)), so 70 (.load none (T 69)), sm 71 12, so 72 (.call true n_huff_Writer_Put [(T 70), (T 71), (C 3)])])))
 (.reg [so 73 (.bin .add (T 65) (C 1)), sm 65 73])))))))
 (.seq (.reg [sm 74 6, so 75 (.len false (T 74)), so 76 (.mv (C 0))])
 (.block 4
 (.loop
 (.seq (.reg [so 77 (.bin .lss (T 76) (T 75))])
 (.seq (.cond (T 77)
 .skip
 (.exit 4))
 (.seq (.block 5
 (.seq (.reg [so 78 (.iaddr (some 3) (T 74) (T 76)), so 79 (.load (some 3) (T 78)), so 14 (.alloc [(.int .i64 (0)), (.int .i64 (0)), (.int .i64 (0))]), sn (.store (some 3) (T 14) (T 79))])
 (.reg [so 80 (.load (some 1) (T 2)), so 81 (.load (some 2) (T 7)), so 82 (.load (some 3) (T 14)), so 83 (.call true n_deflate_packer_symbol [(T 80), (T 81), (T 82)])])))
 (.reg [so 84 (.bin .add (T 76) (C 1)), sm 76 84]))))))))))))))))))
theorem e_deflate_packer_tell : slimC Tryz.prog 85 (Tryz.f53.body.getD .skip) = s_deflate_packer_tell := by kernel_rfl
theorem r_deflate_packer_tell : slimRes Tryz.prog Tryz.f53 = some [] := by kernel_rfl
def s_huff_Writer_Align : SCode :=
 (.reg [sm 2 0, sm 3 0, so 4 (.nilc (T 3)), so 5 (.faddr 0 (T 4)), so 6 (.load none (T 5)), so 7 (.len false (T 6)), so 8 (.bin .mul (T 7) (C 8)), so 9 (.nilc (T 2)), so 10 (.faddr 1 (T 9)), sn (.store none (T 10) (T 8))])
theorem e_huff_Writer_Align : slimC Tryz.prog 11 (Tryz.f79.body.getD .skip) = s_huff_Writer_Align := by kernel_rfl
theorem r_huff_Writer_Align : slimRes Tryz.prog Tryz.f79 = some [] := by kernel_rfl
def s_huff_Writer_Put : SCode :=
 (.seq (.seq (.reg [sm 7 2, so 8 (.bin .lss (T 7) (C 0)), sm 9 8, sg 10 (.mv (T 2)) 9 false, sg 11 (.bin .gtr (T 10) (C 24)) 9 false, so 12 (.pick (T 9) (.const (.bool true)) (T 11))])
 (.cond (T 12)
 .ret
 .skip))
 (.seq (.reg [sm 13 2, so 14 (.mv (C 0))])
 (.block 0
 (.loop
 (.seq (.reg [so 15 (.bin .lss (T 14) (T 13))])
 (.seq (.cond (T 15)
 .skip
 (.exit 0))
 (.seq (.block 1
 (.seq (.reg [sm 16 14, sm 6 16])
 (.reg [sm 17 0, sm 18 1, sm 19 6, so 20 (.bin .shr (T 18) (T 19)), so 21 (.bin .and (T 20) (C 1)), so 22 (.call true n_huff_Writer_bit [(T 17), (T 21)])])))
 (.reg [so 23 (.bin .add (T 14) (C 1)), sm 14 23]))))))))
theorem e_huff_Writer_Put : slimC Tryz.prog 24 (Tryz.f80.body.getD .skip) = s_huff_Writer_Put := by kernel_rfl
theorem r_huff_Writer_Put : slimRes Tryz.prog Tryz.f80 = some [] := by kernel_rfl
def s_huff_Writer_Raw : SCode :=
 (.seq (.reg [sm 4 0, sm 5 0, so 6 (.nilc (T 5)), so 7 (.faddr 0 (T 6)), so 8 (.load none (T 7)), sm 9 1, so 10 (.app none 1 (T 8) (T 9)), so 11 (.nilc (T 4)), so 12 (.faddr 0 (T 11)), sn (.store none (T 12) (T 10))])
 (.reg [sm 13 0, so 14 (.call true n_huff_Writer_Align [(T 13)])]))
theorem e_huff_Writer_Raw : slimC Tryz.prog 15 (Tryz.f81.body.getD .skip) = s_huff_Writer_Raw := by kernel_rfl
theorem r_huff_Writer_Raw : slimRes Tryz.prog Tryz.f81 = some [] := by kernel_rfl
def s_deflate_packer_symbol : SCode :=
 (.seq (.reg [so 3 (.box (T 0)), so 4 (.box (T 1)), so 5 (.box (T 2))])
 (.seq (.reg [so 6 (.faddr 0 (T 3)), so 7 (.load none (T 6)), so 8 (.faddr 1 (T 4)), so 9 (.load none (T 8)), so 10 (.faddr 0 (T 5)), so 11 (.load none (T 10)), so 12 (.iaddr none (T 9) (T 11)), so 13 (.load none (T 12)), so 14 (.faddr 0 (T 4)), so 15 (.load none (T 14)), so 16 (.faddr 0 (T 5)), so 17 (.load none (T 16)), so 18 (.iaddr none (T 15) (T 17)), so 19 (.load none (T 18)), so 20 (.call true n_huff_Writer_Code [(T 7), (T 13), (T 19)])])
 (.reg [so 21 (.faddr 0 (T 3)), so 22 (.load none (T 21)), so 23 (.faddr 1 (T 5)), so 24 (.load none (T 23)), so 25 (.faddr 2 (T 5)), so 26 (.load none (T 25)), so 27 (.call true n_huff_Writer_Put [(T 22), (T 24), (T 26)])])))
theorem e_deflate_packer_symbol : slimC Tryz.prog 28 (Tryz.f82.body.getD .skip) = s_deflate_packer_symbol := by kernel_rfl
theorem r_deflate_packer_symbol : slimRes Tryz.prog Tryz.f82 = some [] := by kernel_rfl
def s_deflate_piece_literal : SCode :=
 (.seq (.reg [so 1 (.box (T 0)), so 2 (.alloc [(.int .i64 (0)), (.int .i64 (0)), (.int .i64 (0))])])
 (.seq (.seq (.reg [so 4 (.load (some 2) (T 1)), so 5 (.call true n_deflate_piece_isRun [(T 4)]), so 6 (.un .not (T 5))])
 (.cond (T 6)
 (.seq (.reg [so 7 (.faddr 0 (T 1)), so 8 (.load none (T 7)), so 9 (.ci .i64 (T 8)), so 10 (.build [(.int .i64 (0)), (.int .i64 (0)), (.int .i64 (0))] [(0, 1, (T 9))]), sn (.store (some 3) (T 2) (T 10))])
 .ret)
 .skip))
 (.seq (.seq (.reg [so 11 (.faddr 0 (T 1)), so 12 (.load none (T 11)), so 13 (.bin .eql (T 12) (.const (.int .u16 (258))))])
 (.cond (T 13)
 (.seq (.reg [so 14 (.build [(.int .i64 (0)), (.int .i64 (0)), (.int .i64 (0))] [(0, 1, (C 285))]), sn (.store (some 3) (T 2) (T 14))])
 .ret)
 .skip))
 (.seq (.reg [so 15 (.faddr 0 (T 1)), so 16 (.load none (T 15)), so 17 (.ci .i64 (T 16)), so 18 (.bin .sub (T 17) (C 3)), so 19 (.call true n_deflate_symbolOf [(T 18), (C 2)]), so 3 (.alloc [(.int .i64 (0)), (.int .i64 (0)), (.int .i64 (0))]), sn (.store (some 3) (T 3) (T 19))])
 (.seq (.reg [so 20 (.faddr 0 (T 3)), so 21 (.load none (T 20)), so 22 (.bin .add (T 21) (C 257)), so 23 (.faddr 0 (T 3)), sn (.store none (T 23) (T 22))])
 (.seq (.reg [so 24 (.load (some 3) (T 3)), sn (.store (some 3) (T 2) (T 24))])
 .ret))))))
theorem e_deflate_piece_literal : slimC Tryz.prog 25 (Tryz.f83.body.getD .skip) = s_deflate_piece_literal := by kernel_rfl
theorem r_deflate_piece_literal : slimRes Tryz.prog Tryz.f83 = some [.cell 2 (some 3)] := by kernel_rfl
def s_deflate_piece_isRun : SCode :=
 (.seq (.reg [so 1 (.box (T 0)), so 2 (.mv (.const (.bool false)))])
 (.seq (.reg [so 3 (.faddr 1 (T 1)), so 4 (.load none (T 3)), so 5 (.bin .gtr (T 4) (.const (.int .u16 (0)))), sm 2 5])
 .ret))
theorem e_deflate_piece_isRun : slimC Tryz.prog 6 (Tryz.f84.body.getD .skip) = s_deflate_piece_isRun := by kernel_rfl
theorem r_deflate_piece_isRun : slimRes Tryz.prog Tryz.f84 = some [.tmp 2] := by kernel_rfl
def s_deflate_piece_distance : SCode :=
 (.seq (.reg [so 1 (.box (T 0)), so 2 (.alloc [(.int .i64 (0)), (.int .i64 (0)), (.int .i64 (0))])])
 (.seq (.reg [so 3 (.faddr 1 (T 1)), so 4 (.load none (T 3)), so 5 (.ci .i64 (T 4)), so 6 (.bin .sub (T 5) (C 1)), so 7 (.call true n_deflate_symbolOf [(T 6), (C 1)]), sn (.store (some 3) (T 2) (T 7))])
 .ret))
theorem e_deflate_piece_distance : slimC Tryz.prog 8 (Tryz.f85.body.getD .skip) = s_deflate_piece_distance := by kernel_rfl
theorem r_deflate_piece_distance : slimRes Tryz.prog Tryz.f85 = some [.cell 2 (some 3)] := by kernel_rfl
def s_deflate_codeOf : SCode :=
 (.seq (.reg [so 2 (.alloc [(.slice none 0 0), (.slice none 0 0)])])
 (.seq (.reg [sm 6 0, so 7 (.call true n_huff_Codes [(T 6)]), sm 5 7, so 8 (.ext (T 5) 0), so 9 (.ext (T 5) 1), sm 3 8, sm 4 9])
 (.seq (.reg [sm 10 0, sm 11 3, so 12 (.build [(.slice none 0 0), (.slice none 0 0)] [(0, 1, (T 10)), (1, 1, (T 11))]), sn (.store (some 2) (T 2) (T 12))])
 .ret)))
theorem e_deflate_codeOf : slimC Tryz.prog 13 (Tryz.f86.body.getD .skip) = s_deflate_codeOf := by kernel_rfl
theorem r_deflate_codeOf : slimRes Tryz.prog Tryz.f86 = some [.cell 2 (some 2)] := by kernel_rfl
def s_deflate_newFinder : SCode :=
 (.seq (.reg [so 2 (.mv (.const (.pointer none)))])
 (.seq (.reg [sm 4 0, so 5 (.mkm), sm 6 0, so 7 (.len false (T 6)), so 8 (.mm false (T 7) [(C 32768)]), so 9 (.mks none 8 [(.int .i64 (0))] (T 8) (T 8)), so 10 (.build [(.slice none 0 0), (.map none), (.slice none 0 0), (.int .i64 (0))] [(0, 1, (T 4)), (1, 1, (T 5)), (2, 1, (T 9)), (3, 1, (C 256))]), so 11 (.box (T 10)), sm 3 11])
 (.seq (.seq (.reg [sm 12 0, so 13 (.len false (T 12)), so 14 (.bin .leq (T 13) (C 16000))])
 (.cond (T 14)
 (.reg [sm 15 3, sm 16 0, so 17 (.len false (T 16)), so 18 (.nilc (T 15)), so 19 (.faddr 3 (T 18)), sn (.store none (T 19) (T 17))])
 .skip))
 (.seq (.reg [sm 20 3, sm 2 20])
 .ret))))
theorem e_deflate_newFinder : slimC Tryz.prog 21 (Tryz.f89.body.getD .skip) = s_deflate_newFinder := by kernel_rfl
theorem r_deflate_newFinder : slimRes Tryz.prog Tryz.f89 = some [.tmp 2] := by kernel_rfl
def s_deflate_finder_longest : SCode :=
 (.seq (.reg [so 4 (.mv (C 0)), so 5 (.mv (C 0))])
 (.seq (.reg [sm 9 0, so 10 (.nilc (T 9)), so 11 (.faddr 0 (T 10)), so 12 (.load none (T 11)), so 13 (.len false (T 12)), sm 14 1, so 15 (.bin .sub (T 13) (T 14)), so 16 (.mm false (C 258) [(T 15)]), sm 6 16])
 (.seq (.reg [sm 17 0, sm 18 1, so 19 (.call true n_deflate_finder_lastLike [(T 17), (T 18)]), sm 7 19])
 (.seq (.seq (.reg [sm 20 0, so 21 (.nilc (T 20)), so 22 (.faddr 3 (T 21)), so 23 (.load none (T 22)), so 24 (.mv (C 0))])
 (.block 0
 (.loop
 (.seq (.reg [so 25 (.bin .lss (T 24) (T 23))])
 (.seq (.cond (T 25)
 .skip
 (.exit 0))
 (.seq (.block 1
 (.seq (.seq (.reg [sm 26 1, sm 27 7, so 28 (.bin .sub (T 26) (T 27)), so 29 (.bin .gtr (T 28) (C 32768)), sm 30 29, sg 31 (.mv (T 4)) 30 false, sg 32 (.mv (T 6)) 30 false, sg 33 (.bin .eql (T 31) (T 32)) 30 false, so 34 (.pick (T 30) (.const (.bool true)) (T 33))])
 (.cond (T 34)
 (.exit 0)
 .skip))
 (.seq (.seq (.reg [sm 35 0, sm 36 7, sm 37 1, sm 38 6, so 39 (.call true n_deflate_finder_alike [(T 35), (T 36), (T 37), (T 38)]), sm 8 39])
 (.seq (.reg [sm 40 8, sm 41 4, so 42 (.bin .gtr (T 40) (T 41))])
 (.cond (T 42)
 (.reg [sm 43 8, sm 44 1, sm 45 7, so 46 (.bin .sub (T 44) (T 45)), sm 4 43, sm 5 46])
 .skip)))
 (.reg [sm 47 0, so 48 (.nilc (T 47)), so 49 (.faddr 2 (T 48)), so 50 (.load none (T 49)), sm 51 7, sm 52 0, so 53 (.nilc (T 52)), so 54 (.faddr 2 (T 53)), so 55 (.load none (T 54)), so 56 (.len false (T 55)), so 57 (.bin .rem (T 51) (T 56)), so 58 (.iaddr none (T 50) (T 57)), so 59 (.load none (T 58)), sm 7 59]))))
 (.reg [so 60 (.bin .add (T 24) (C 1)), sm 24 60])))))))
 (.seq (.reg [sm 61 4, sm 62 5, sm 4 61, sm 5 62])
 .ret)))))
theorem e_deflate_finder_longest : slimC Tryz.prog 63 (Tryz.f90.body.getD .skip) = s_deflate_finder_longest := by kernel_rfl
theorem r_deflate_finder_longest : slimRes Tryz.prog Tryz.f90 = some [.tmp 4, .tmp 5] := by kernel_rfl
def s_deflate_finder_add : SCode :=
 (.seq (.reg [sm 9 1, so 10 (.bin .sub (T 9) (C 32768)), sm 4 10])
 (.seq (.seq (.reg [sm 12 0, sm 13 4, so 14 (.call true n_deflate_finder_start [(T 12), (T 13)]), sm 11 14, so 15 (.ext (T 11) 0), so 16 (.ext (T 11) 1), so 5 (.alloc [(.int .u8 (0)), (.int .u8 (0)), (.int .u8 (0))]), sn (.store (some 3) (T 5) (T 15)), sm 6 16])
 (.seq (.reg [sm 17 6, sm 18 17, sg 19 (.mv (T 0)) 18 true, sg 20 (.nilc (T 19)) 18 true, sg 21 (.faddr 1 (T 20)) 18 true, sg 22 (.load none (T 21)) 18 true, sg 23 (.load (some 3) (T 5)) 18 true, sg 24 (.mget false (.agg #[(.int .u8 (0)), (.int .u8 (0)), (.int .u8 (0))]) (.int .i64 (0)) (T 22) (T 23)) 18 true, sg 25 (.mv (T 4)) 18 true, sg 26 (.bin .eql (T 24) (T 25)) 18 true, so 27 (.pick (T 18) (T 26) (.const (.bool false)))])
 (.cond (T 27)
 (.reg [sm 28 0, so 29 (.nilc (T 28)), so 30 (.faddr 1 (T 29)), so 31 (.load none (T 30)), so 32 (.load (some 3) (T 5)), sn (.mdel (.agg #[(.int .u8 (0)), (.int .u8 (0)), (.int .u8 (0))]) (T 31) (T 32))])
 .skip)))
 (.seq (.reg [sm 34 0, sm 35 1, so 36 (.call true n_deflate_finder_start [(T 34), (T 35)]), sm 33 36, so 37 (.ext (T 33) 0), so 38 (.ext (T 33) 1), so 7 (.alloc [(.int .u8 (0)), (.int .u8 (0)), (.int .u8 (0))]), sn (.store (some 3) (T 7) (T 37)), sm 8 38])
 (.seq (.reg [sm 39 8])
 (.cond (T 39)
 (.seq (.reg3 [sm 40 0, so 41 (.nilc (T 40)), so 42 (.faddr 2 (T 41)), so 43 (.load none (T 42)), sm 44 1, sm 45 0, so 46 (.nilc (T 45)), so 47 (.faddr 2 (T 46)), so 48 (.load none (T 47)), so 49 (.len false (T 48)), so 50 (.bin .rem (T 44) (T 49)), sm 51 0, sm 52 1, so 53 (.call true n_deflate_finder_lastLike [(T 51), (T 52)])]
 [(none, (T 42), 43), (none, (T 47), 48)]
 [so 54 (.iaddr none (T 43) (T 50)), sn (.store none (T 54) (T 53))])
 (.reg [sm 55 0, so 56 (.nilc (T 55)), so 57 (.faddr 1 (T 56)), so 58 (.load none (T 57)), so 59 (.load (some 3) (T 7)), sm 60 1, sn (.mset (.agg #[(.int .u8 (0)), (.int .u8 (0)), (.int .u8 (0))]) (T 58) (T 59) (T 60))]))
 .skip)))))
theorem e_deflate_finder_add : slimC Tryz.prog 61 (Tryz.f91.body.getD .skip) = s_deflate_finder_add := by kernel_rfl
theorem r_deflate_finder_add : slimRes Tryz.prog Tryz.f91 = some [] := by kernel_rfl
def s_deflate_bestCode : SCode :=
 (.seq (.reg [so 4 (.alloc [(.slice none 0 0), (.slice none 0 0)])])
 (.seq (.reg [sm 8 0, sm 9 1, so 10 (.call true n_huff_Lengths [(T 8), (T 9)]), sm 7 10, so 11 (.ext (T 7) 0), so 12 (.ext (T 7) 1), sm 5 11, sm 6 12])
 (.seq (.reg [sm 13 5, so 14 (.call true n_deflate_codeOf [(T 13)]), sn (.store (some 2) (T 4) (T 14))])
 .ret)))
theorem e_deflate_bestCode : slimC Tryz.prog 15 (Tryz.f92.body.getD .skip) = s_deflate_bestCode := by kernel_rfl
theorem r_deflate_bestCode : slimRes Tryz.prog Tryz.f92 = some [.cell 4 (some 2)] := by kernel_rfl
def s_deflate_cut : SCode :=
 (.seq (.reg [so 4 (.mv (.const (.slice none 0 0)))])
 (.seq (.reg [sm 6 0, so 7 (.len false (T 6)), sm 5 7])
 (.seq (.block 0
 (.loop
 (.seq (.seq (.reg [sm 8 5, sm 9 1, so 10 (.bin .gtr (T 8) (T 9)), sm 11 10, sg 12 (.mv (T 0)) 11 true, sg 13 (.mv (T 5)) 11 true, sg 14 (.bin .sub (T 13) (C 1)) 11 true, sg 15 (.iaddr none (T 12) (T 14)) 11 true, sg 16 (.load none (T 15)) 11 true, sg 17 (.bin .eql (T 16) (C 0)) 11 true, so 18 (.pick (T 11) (T 17) (.const (.bool false)))])
 (.cond (T 18)
 .skip
 (.exit 0)))
 (.block 1
 (.reg [sm 19 5, so 20 (.bin .sub (T 19) (C 1)), sm 5 20])))))
 (.seq (.reg [sm 21 0, sm 22 5, so 23 (.sl none (T 21) none (some (T 22))), sm 4 23])
 .ret))))
theorem e_deflate_cut : slimC Tryz.prog 24 (Tryz.f93.body.getD .skip) = s_deflate_cut := by kernel_rfl
theorem r_deflate_cut : slimRes Tryz.prog Tryz.f93 = some [.tmp 4] := by kernel_rfl
def s_deflate_tellsOf : SCode :=
 (.seq (.reg [so 2 (.mv (.const (.slice none 0 0)))])
 (.seq (.reg [so 3 (.mv (.const (.slice none 0 0)))])
 (.seq (.seq (.reg [so 4 (.mv (C 0))])
 (.block 0
 (.loop
 (.seq (.seq (.reg [sm 7 4, sm 8 0, so 9 (.len false (T 8)), so 10 (.bin .lss (T 7) (T 9))])
 (.cond (T 10)
 .skip
 (.exit 0)))
 (.block 1
 (.seq (.reg [sm 12 0, sm 13 4, so 14 (.call true n_deflate_tellAt [(T 12), (T 13)]), sm 11 14, so 15 (.ext (T 11) 0), so 16 (.ext (T 11) 1), so 5 (.alloc [(.int .i64 (0)), (.int .i64 (0)), (.int .i64 (0))]), sn (.store (some 3) (T 5) (T 15)), sm 6 16])
 (.seq (.reg [sm 17 3, so 18 (.load (some 3) (T 5)), so 19 (.bslice (some 3) [(T 18)]), so 20 (.app (some 3) 24 (T 17) (T 19)), sm 3 20])
 (.reg [sm 21 4, sm 22 6, so 23 (.bin .add (T 21) (T 22)), sm 4 23]))))))))
 (.seq (.reg [sm 24 3, sm 2 24])
 .ret))))
theorem e_deflate_tellsOf : slimC Tryz.prog 25 (Tryz.f94.body.getD .skip) = s_deflate_tellsOf := by kernel_rfl
theorem r_deflate_tellsOf : slimRes Tryz.prog Tryz.f94 = some [.tmp 2] := by kernel_rfl
def s_deflate_bestTeller : SCode :=
 (.seq (.reg [so 2 (.alloc [(.slice none 0 0), (.slice none 0 0)])])
 (.seq (.reg [so 6 (.mks none 8 [(.int .i64 (0))] (C 19) (C 19)), sm 3 6])
 (.seq (.seq (.reg [sm 7 0, so 8 (.len false (T 7)), so 9 (.mv (C 0))])
 (.block 0
 (.loop
 (.seq (.reg [so 10 (.bin .lss (T 9) (T 8))])
 (.seq (.cond (T 10)
 .skip
 (.exit 0))
 (.seq (.block 1
 (.seq (.reg [so 11 (.iaddr (some 3) (T 7) (T 9)), so 12 (.load (some 3) (T 11)), so 5 (.alloc [(.int .i64 (0)), (.int .i64 (0)), (.int .i64 (0))]), sn (.store (some 3) (T 5) (T 12))])
 (.reg [sm 13 3, so 14 (.faddr 0 (T 5)), so 15 (.load none (T 14)), so 16 (.iaddr none (T 13) (T 15)), so 17 (.load none (T 16)), so 18 (.bin .add (T 17) (C 1)), so 19 (.iaddr none (T 13) (T 15)), sn (.store none (T 19) (T 18))])))
 (.reg [so 20 (.bin .add (T 9) (C 1)), sm 9 20])))))))
 (.seq (.reg [sm 21 3, so 22 (.call true n_deflate_bestCode [(T 21), (C 7)]), sn (.store (some 2) (T 2) (T 22))])
 .ret))))
theorem e_deflate_bestTeller : slimC Tryz.prog 23 (Tryz.f95.body.getD .skip) = s_deflate_bestTeller := by kernel_rfl
theorem r_deflate_bestTeller : slimRes Tryz.prog Tryz.f95 = some [.cell 2 (some 2)] := by kernel_rfl
def s_huff_Writer_bit : SCode :=
 (.seq (.seq (.reg [sm 4 0, so 5 (.nilc (T 4)), so 6 (.faddr 1 (T 5)), so 7 (.load none (T 6)), so 8 (.bin .rem (T 7) (C 8)), so 9 (.bin .eql (T 8) (C 0))])
 (.cond (T 9)
 (.reg [sm 10 0, sm 11 0, so 12 (.nilc (T 11)), so 13 (.faddr 0 (T 12)), so 14 (.load none (T 13)), so 15 (.bslice none [(.const (.int .u8 (0)))]), so 16 (.app none 1 (T 14) (T 15)), so 17 (.nilc (T 10)), so 18 (.faddr 0 (T 17)), sn (.store none (T 18) (T 16))])
 .skip))
 (.seq (.reg [sm 19 0, so 20 (.nilc (T 19)), so 21 (.faddr 0 (T 20)), so 22 (.load none (T 21)), sm 23 0, so 24 (.nilc (T 23)), so 25 (.faddr 1 (T 24)), so 26 (.load none (T 25)), so 27 (.bin .quo (T 26) (C 8)), so 28 (.iaddr none (T 22) (T 27)), so 29 (.load none (T 28)), sm 30 1, sm 31 0, so 32 (.nilc (T 31)), so 33 (.faddr 1 (T 32)), so 34 (.load none (T 33)), so 35 (.bin .rem (T 34) (C 8)), so 36 (.bin .shl (T 30) (T 35)), so 37 (.ci .u8 (T 36)), so 38 (.bin .or (T 29) (T 37)), so 39 (.iaddr none (T 22) (T 27)), sn (.store none (T 39) (T 38))])
 (.reg [sm 40 0, so 41 (.nilc (T 40)), so 42 (.faddr 1 (T 41)), so 43 (.load none (T 42)), so 44 (.bin .add (T 43) (C 1)), so 45 (.nilc (T 40)), so 46 (.faddr 1 (T 45)), sn (.store none (T 46) (T 44))])))
theorem e_huff_Writer_bit : slimC Tryz.prog 47 (Tryz.f121.body.getD .skip) = s_huff_Writer_bit := by kernel_rfl
theorem r_huff_Writer_bit : slimRes Tryz.prog Tryz.f121 = some [] := by kernel_rfl
def s_huff_Writer_Code : SCode :=
 (.seq (.seq (.reg [sm 7 2, so 8 (.bin .lss (T 7) (C 0)), sm 9 8, sg 10 (.mv (T 2)) 9 false, sg 11 (.bin .gtr (T 10) (C 15)) 9 false, so 12 (.pick (T 9) (.const (.bool true)) (T 11))])
 (.cond (T 12)
 .ret
 .skip))
 (.seq (.reg [sm 13 2, so 14 (.mv (C 0))])
 (.block 0
 (.loop
 (.seq (.reg [so 15 (.bin .lss (T 14) (T 13))])
 (.seq (.cond (T 15)
 .skip
 (.exit 0))
 (.seq (.block 1
 (.seq (.reg [sm 16 14, sm 6 16])
 (.reg [sm 17 0, sm 18 1, sm 19 2, so 20 (.bin .sub (T 19) (C 1)), sm 21 6, so 22 (.bin .sub (T 20) (T 21)), so 23 (.bin .shr (T 18) (T 22)), so 24 (.bin .and (T 23) (C 1)), so 25 (.call true n_huff_Writer_bit [(T 17), (T 24)])])))
 (.reg [so 26 (.bin .add (T 14) (C 1)), sm 14 26]))))))))
theorem e_huff_Writer_Code : slimC Tryz.prog 27 (Tryz.f122.body.getD .skip) = s_huff_Writer_Code := by kernel_rfl
theorem r_huff_Writer_Code : slimRes Tryz.prog Tryz.f122 = some [] := by kernel_rfl
def s_deflate_symbolOf : SCode :=
 (.seq (.reg [so 4 (.alloc [(.int .i64 (0)), (.int .i64 (0)), (.int .i64 (0))])])
 (.seq (.reg [sm 6 0, so 7 (.ci .u64 (T 6)), so 8 (.call true n_bits_Len [(T 7)]), so 9 (.bin .sub (T 8) (C 1)), sm 10 1, so 11 (.bin .sub (T 9) (T 10)), so 12 (.mm true (C 0) [(T 11)]), sm 5 12])
 (.seq (.reg [sm 13 5, sm 14 1, so 15 (.bin .shl (T 13) (T 14)), sm 16 0, sm 17 5, so 18 (.bin .shr (T 16) (T 17)), so 19 (.bin .add (T 15) (T 18)), sm 20 0, sm 21 5, so 22 (.build [(.int .i64 (0)), (.int .i64 (0)), (.int .i64 (0))] [(0, 1, (T 19)), (1, 1, (T 20)), (2, 1, (T 21))]), sn (.store (some 3) (T 4) (T 22))])
 .ret)))
theorem e_deflate_symbolOf : slimC Tryz.prog 23 (Tryz.f123.body.getD .skip) = s_deflate_symbolOf := by kernel_rfl
theorem r_deflate_symbolOf : slimRes Tryz.prog Tryz.f123 = some [.cell 4 (some 3)] := by kernel_rfl
def s_huff_Codes : SCode :=
 (.seq (.reg [so 2 (.mv (.const (.slice none 0 0))), so 3 (.mv (C 0))])
 (.seq (.seq (.reg [sm 9 0, so 10 (.call true n_huff_Check [(T 9)]), sm 4 10])
 (.seq (.reg [sm 11 4, so 12 (.bin .neq (T 11) (C 0))])
 (.cond (T 12)
 (.seq (.reg [sm 13 4, so 2 (.mv (.const (.slice none 0 0))), sm 3 13])
 .ret)
 .skip)))
 (.seq (.reg [sm 14 0, so 15 (.call true n_huff_firstRows [(T 14)]), so 5 (.alloc (List.replicate 16 (.int .i64 (0)))), sn (.store (some 16) (T 5) (T 15))])
 (.seq (.reg [sm 16 0, so 17 (.len false (T 16)), so 18 (.mks none 8 [(.int .i64 (0))] (T 17) (T 17)), sm 6 18])
 (.seq (.seq (.reg [sm 19 0, so 20 (.len false (T 19)), so 21 (.mv (C 0))])
 (.block 0
 (.loop
 (.seq (.reg [so 22 (.bin .lss (T 21) (T 20))])
 (.seq (.cond (T 22)
 .skip
 (.exit 0))
 (.seq (.block 1
 (.seq (.reg [sm 23 21, so 24 (.iaddr none (T 19) (T 21)), so 25 (.load none (T 24)), sm 7 23, sm 8 25])
 (.seq (.reg [sm 26 8, so 27 (.bin .gtr (T 26) (C 0))])
 (.cond (T 27)
 (.seq (.reg [sm 28 6, sm 29 7, sm 30 8, so 31 (.iaddrA 16 none (T 5) (T 30)), so 32 (.load none (T 31)), so 33 (.iaddr none (T 28) (T 29)), sn (.store none (T 33) (T 32))])
 (.reg [sm 34 8, so 35 (.iaddrA 16 none (T 5) (T 34)), so 36 (.load none (T 35)), so 37 (.bin .add (T 36) (C 1)), so 38 (.iaddrA 16 none (T 5) (T 34)), sn (.store none (T 38) (T 37))]))
 .skip))))
 (.reg [so 39 (.bin .add (T 21) (C 1)), sm 21 39])))))))
 (.seq (.reg [sm 40 6, sm 2 40, so 3 (.mv (C 0))])
 .ret))))))
theorem e_huff_Codes : slimC Tryz.prog 41 (Tryz.f124.body.getD .skip) = s_huff_Codes := by kernel_rfl
theorem r_huff_Codes : slimRes Tryz.prog Tryz.f124 = some [.tmp 2, .tmp 3] := by kernel_rfl
def s_deflate_finder_lastLike : SCode :=
 (.seq (.reg [so 4 (.mv (C 0))])
 (.seq (.seq (.reg [sm 10 0, sm 11 1, so 12 (.call true n_deflate_finder_start [(T 10), (T 11)]), sm 9 12, so 13 (.ext (T 9) 0), so 14 (.ext (T 9) 1), so 5 (.alloc [(.int .u8 (0)), (.int .u8 (0)), (.int .u8 (0))]), sn (.store (some 3) (T 5) (T 13)), sm 6 14])
 (.seq (.reg [sm 15 6])
 (.cond (T 15)
 (.seq (.reg [sm 17 0, so 18 (.nilc (T 17)), so 19 (.faddr 1 (T 18)), so 20 (.load none (T 19)), so 21 (.load (some 3) (T 5)), so 22 (.mget true (.agg #[(.int .u8 (0)), (.int .u8 (0)), (.int .u8 (0))]) (.int .i64 (0)) (T 20) (T 21)), sm 16 22, so 23 (.ext (T 16) 0), so 24 (.ext (T 16) 1), sm 7 23, sm 8 24])
 (.seq (.reg [sm 25 8])
 (.cond (T 25)
 (.seq (.reg [sm 26 7, sm 4 26])
 .ret)
 .skip)))
 .skip)))
 (.seq (.reg [so 4 (.mv (C (-32769)))])
 .ret)))
theorem e_deflate_finder_lastLike : slimC Tryz.prog 27 (Tryz.f127.body.getD .skip) = s_deflate_finder_lastLike := by kernel_rfl
theorem r_deflate_finder_lastLike : slimRes Tryz.prog Tryz.f127 = some [.tmp 4] := by kernel_rfl
def s_deflate_finder_alike : SCode :=
 (.seq (.reg [so 8 (.mv (C 0))])
 (.seq (.reg [so 9 (.mv (C 0))])
 (.seq (.block 0
 (.loop
 (.seq (.seq (.reg [sm 10 9, sm 11 3, so 12 (.bin .lss (T 10) (T 11)), sm 13 12, sg 14 (.mv (T 0)) 13 true, sg 15 (.nilc (T 14)) 13 true, sg 16 (.faddr 0 (T 15)) 13 true, sg 17 (.load none (T 16)) 13 true, sg 18 (.mv (T 1)) 13 true, sg 19 (.mv (T 9)) 13 true, sg 20 (.bin .add (T 18) (T 19)) 13 true, sg 21 (.iaddr none (T 17) (T 20)) 13 true, sg 22 (.load none (T 21)) 13 true, sg 23 (.mv (T 0)) 13 true, sg 24 (.nilc (T 23)) 13 true, sg 25 (.faddr 0 (T 24)) 13 true, sg 26 (.load none (T 25)) 13 true, sg 27 (.mv (T 2)) 13 true, sg 28 (.mv (T 9)) 13 true, sg 29 (.bin .add (T 27) (T 28)) 13 true, sg 30 (.iaddr none (T 26) (T 29)) 13 true, sg 31 (.load none (T 30)) 13 true, sg 32 (.bin .eql (T 22) (T 31)) 13 true, so 33 (.pick (T 13) (T 32) (.const (.bool false)))])
 (.cond (T 33)
 .skip
 (.exit 0)))
 (.block 1
 (.reg [sm 34 9, so 35 (.bin .add (T 34) (C 1)), sm 9 35])))))
 (.seq (.reg [sm 36 9, sm 8 36])
 .ret))))
theorem e_deflate_finder_alike : slimC Tryz.prog 37 (Tryz.f128.body.getD .skip) = s_deflate_finder_alike := by kernel_rfl
theorem r_deflate_finder_alike : slimRes Tryz.prog Tryz.f128 = some [.tmp 8] := by kernel_rfl
def s_deflate_finder_start : SCode :=
 (.seq (.reg [so 4 (.alloc [(.int .u8 (0)), (.int .u8 (0)), (.int .u8 (0))]), so 5 (.mv (.const (.bool false)))])
 (.seq (.reg [so 6 (.alloc [(.int .u8 (0)), (.int .u8 (0)), (.int .u8 (0))])])
 (.seq (.seq (.reg [sm 7 1, so 8 (.bin .lss (T 7) (C 0)), sm 9 8, sg 10 (.mv (T 0)) 9 false, sg 11 (.nilc (T 10)) 9 false, sg 12 (.faddr 0 (T 11)) 9 false, sg 13 (.load none (T 12)) 9 false, sg 14 (.len false (T 13)) 9 false, sg 15 (.mv (T 1)) 9 false, sg 16 (.bin .sub (T 14) (T 15)) 9 false, sg 17 (.bin .lss (T 16) (C 3)) 9 false, so 18 (.pick (T 9) (.const (.bool true)) (T 17))])
 (.cond (T 18)
 (.seq (.reg [so 19 (.load (some 3) (T 6)), sn (.store (some 3) (T 4) (T 19)), so 5 (.mv (.const (.bool false)))])
 .ret)
 .skip))
 (.seq (.reg [so 20 (.sla 3 none (T 6) none none), sm 21 0, so 22 (.nilc (T 21)), so 23 (.faddr 0 (T 22)), so 24 (.load none (T 23)), sm 25 1, so 26 (.sl none (T 24) (some (T 25)) none), so 27 (.copy (T 20) (T 26))])
 (.seq (.reg [so 28 (.load (some 3) (T 6)), sn (.store (some 3) (T 4) (T 28)), so 5 (.mv (.const (.bool true)))])
 .ret)))))
theorem e_deflate_finder_start : slimC Tryz.prog 29 (Tryz.f129.body.getD .skip) = s_deflate_finder_start := by kernel_rfl
theorem r_deflate_finder_start : slimRes Tryz.prog Tryz.f129 = some [.cell 4 (some 3), .tmp 5] := by kernel_rfl
def s_huff_Lengths : SCode :=
 (.seq (.reg [so 4 (.mv (.const (.slice none 0 0))), so 5 (.mv (C 0))])
 (.seq (.seq (.reg [sm 14 1, so 15 (.bin .lss (T 14) (C 1)), sm 16 15, sg 17 (.mv (T 1)) 16 false, sg 18 (.bin .gtr (T 17) (C 15)) 16 false, so 19 (.pick (T 16) (.const (.bool true)) (T 18))])
 (.cond (T 19)
 (.seq (.reg [so 4 (.mv (.const (.slice none 0 0))), so 5 (.mv (C 1))])
 .ret)
 .skip))
 (.seq (.seq (.reg [sm 20 0, so 21 (.len false (T 20)), so 22 (.bin .gtr (T 21) (C 320))])
 (.cond (T 22)
 (.seq (.reg [so 4 (.mv (.const (.slice none 0 0))), so 5 (.mv (C 4))])
 .ret)
 .skip))
 (.seq (.reg [so 6 (.mv (.const (.slice none 0 0)))])
 (.seq (.seq (.reg [sm 23 0, so 24 (.len false (T 23)), so 25 (.mv (C 0))])
 (.block 0
 (.loop
 (.seq (.reg [so 26 (.bin .lss (T 25) (T 24))])
 (.seq (.cond (T 26)
 .skip
 (.exit 0))
 (.seq (.block 1
 (.seq (.reg [sm 27 25, so 28 (.iaddr none (T 23) (T 25)), so 29 (.load none (T 28)), sm 7 27, sm 8 29])
 (.seq (.seq (.reg [sm 30 8, so 31 (.bin .lss (T 30) (C 0)), sm 32 31, sg 33 (.mv (T 8)) 32 false, sg 34 (.bin .gtr (T 33) (C 4294967296)) 32 false, so 35 (.pick (T 32) (.const (.bool true)) (T 34))])
 (.cond (T 35)
 (.seq (.reg [so 4 (.mv (.const (.slice none 0 0))), so 5 (.mv (C 1))])
 .ret)
 .skip))
 (.seq (.reg [sm 36 8, so 37 (.bin .gtr (T 36) (C 0))])
 (.cond (T 37)
 (.reg [sm 38 6, sm 39 8, sm 40 7, so 41 (.bslice none [(T 40)]), so 42 (.build [(.int .i64 (0)), (.slice none 0 0)] [(0, 1, (T 39)), (1, 1, (T 41))]), so 43 (.bslice (some 2) [(T 42)]), so 44 (.app (some 2) 32 (T 38) (T 43)), sm 6 44])
 .skip)))))
 (.reg [so 45 (.bin .add (T 25) (C 1)), sm 25 45])))))))
 (.seq (.seq (.reg [sm 46 6, so 47 (.len false (T 46)), sm 48 1, so 49 (.bin .shl (C 1) (T 48)), so 50 (.bin .gtr (T 47) (T 49))])
 (.cond (T 50)
 (.seq (.reg [so 4 (.mv (.const (.slice none 0 0))), so 5 (.mv (C 4))])
 .ret)
 .skip))
 (.seq (.reg [sm 51 0, so 52 (.len false (T 51)), so 53 (.mks none 8 [(.int .i64 (0))] (T 52) (T 52)), sm 9 53])
 (.seq (.seq (.reg [sm 54 6, sm 55 1, so 56 (.call true n_huff_cheapest [(T 54), (T 55)]), so 57 (.len false (T 56)), so 58 (.mv (C 0))])
 (.block 2
 (.loop
 (.seq (.reg [so 59 (.bin .lss (T 58) (T 57))])
 (.seq (.cond (T 59)
 .skip
 (.exit 2))
 (.seq (.block 3
 (.seq (.reg [so 60 (.iaddr (some 2) (T 56) (T 58)), so 61 (.load (some 2) (T 60)), so 11 (.alloc [(.int .i64 (0)), (.slice none 0 0)]), sn (.store (some 2) (T 11) (T 61))])
 (.seq (.reg [so 62 (.faddr 1 (T 11)), so 63 (.load none (T 62)), so 64 (.len false (T 63)), so 65 (.mv (C 0))])
 (.block 4
 (.loop
 (.seq (.reg [so 66 (.bin .lss (T 65) (T 64))])
 (.seq (.cond (T 66)
 .skip
 (.exit 4))
 (.seq (.block 5
 (.seq (.reg [so 67 (.iaddr none (T 63) (T 65)), so 68 (.load none (T 67)), sm 13 68])
 (.reg [sm 69 9, sm 70 13, so 71 (.iaddr none (T 69) (T 70)), so 72 (.load none (T 71)), so 73 (.bin .add (T 72) (C 1)), so 74 (.iaddr none (T 69) (T 70)), sn (.store none (T 74) (T 73))])))
 (.reg [so 75 (.bin .add (T 65) (C 1)), sm 65 75])))))))))
 (.reg [so 76 (.bin .add (T 58) (C 1)), sm 58 76])))))))
 (.seq (.reg [sm 77 9, sm 4 77, so 5 (.mv (C 0))])
 .ret)))))))))
theorem e_huff_Lengths : slimC Tryz.prog 78 (Tryz.f130.body.getD .skip) = s_huff_Lengths := by kernel_rfl
theorem r_huff_Lengths : slimRes Tryz.prog Tryz.f130 = some [.tmp 4, .tmp 5] := by kernel_rfl
def s_deflate_tellAt : SCode :=
 (.seq (.reg [so 4 (.alloc [(.int .i64 (0)), (.int .i64 (0)), (.int .i64 (0))]), so 5 (.mv (C 0))])
 (.seq (.reg [so 6 (.mv (C 1))])
 (.seq (.block 0
 (.loop
 (.seq (.seq (.reg [sm 7 1, sm 8 6, so 9 (.bin .add (T 7) (T 8)), sm 10 0, so 11 (.len false (T 10)), so 12 (.bin .lss (T 9) (T 11)), sm 13 12, sg 14 (.mv (T 0)) 13 true, sg 15 (.mv (T 1)) 13 true, sg 16 (.mv (T 6)) 13 true, sg 17 (.bin .add (T 15) (T 16)) 13 true, sg 18 (.iaddr none (T 14) (T 17)) 13 true, sg 19 (.load none (T 18)) 13 true, sg 20 (.mv (T 0)) 13 true, sg 21 (.mv (T 1)) 13 true, sg 22 (.iaddr none (T 20) (T 21)) 13 true, sg 23 (.load none (T 22)) 13 true, sg 24 (.bin .eql (T 19) (T 23)) 13 true, so 25 (.pick (T 13) (T 24) (.const (.bool false)))])
 (.cond (T 25)
 .skip
 (.exit 0)))
 (.block 1
 (.reg [sm 26 6, so 27 (.bin .add (T 26) (C 1)), sm 6 27])))))
 (.seq (.block 2
 (.seq (.reg [sm 29 0, sm 30 1, so 31 (.iaddr none (T 29) (T 30)), so 32 (.load none (T 31)), so 33 (.bin .eql (T 32) (C 0)), sm 34 33, sg 35 (.mv (T 6)) 34 true, sg 36 (.bin .geq (T 35) (C 11)) 34 true, so 37 (.pick (T 34) (T 36) (.const (.bool false))), sm 28 37])
 (.cond (T 28)
 (.seq (.reg [sm 38 6, so 39 (.mm false (T 38) [(C 138)]), sm 6 39])
 (.seq (.reg [sm 40 6, so 41 (.bin .sub (T 40) (C 11)), so 42 (.build [(.int .i64 (0)), (.int .i64 (0)), (.int .i64 (0))] [(0, 1, (C 18)), (1, 1, (T 41)), (2, 1, (C 7))]), sm 43 6, sn (.store (some 3) (T 4) (T 42)), sm 5 43])
 .ret))
 (.seq (.reg [sm 45 0, sm 46 1, so 47 (.iaddr none (T 45) (T 46)), so 48 (.load none (T 47)), so 49 (.bin .eql (T 48) (C 0)), sm 50 49, sg 51 (.mv (T 6)) 50 true, sg 52 (.bin .geq (T 51) (C 3)) 50 true, so 53 (.pick (T 50) (T 52) (.const (.bool false))), sm 44 53])
 (.cond (T 44)
 (.seq (.reg [sm 54 6, so 55 (.mm false (T 54) [(C 10)]), sm 6 55])
 (.seq (.reg [sm 56 6, so 57 (.bin .sub (T 56) (C 3)), so 58 (.build [(.int .i64 (0)), (.int .i64 (0)), (.int .i64 (0))] [(0, 1, (C 17)), (1, 1, (T 57)), (2, 1, (C 3))]), sm 59 6, sn (.store (some 3) (T 4) (T 58)), sm 5 59])
 .ret))
 (.seq (.reg [sm 61 1, so 62 (.bin .gtr (T 61) (C 0)), sm 63 62, sg 64 (.mv (T 0)) 63 true, sg 65 (.mv (T 1)) 63 true, sg 66 (.iaddr none (T 64) (T 65)) 63 true, sg 67 (.load none (T 66)) 63 true, sg 68 (.mv (T 0)) 63 true, sg 69 (.mv (T 1)) 63 true, sg 70 (.bin .sub (T 69) (C 1)) 63 true, sg 71 (.iaddr none (T 68) (T 70)) 63 true, sg 72 (.load none (T 71)) 63 true, sg 73 (.bin .eql (T 67) (T 72)) 63 true, so 74 (.pick (T 63) (T 73) (.const (.bool false))), sm 75 74, sg 76 (.mv (T 6)) 75 true, sg 77 (.bin .geq (T 76) (C 3)) 75 true, so 78 (.pick (T 75) (T 77) (.const (.bool false))), sm 60 78])
 (.cond (T 60)
 (.seq (.reg [sm 79 6, so 80 (.mm false (T 79) [(C 6)]), sm 6 80])
 (.seq (.reg [sm 81 6, so 82 (.bin .sub (T 81) (C 3)), so 83 (.build [(.int .i64 (0)), (.int .i64 (0)), (.int .i64 (0))] [(0, 1, (C 16)), (1, 1, (T 82)), (2, 1, (C 2))]), sm 84 6, sn (.store (some 3) (T 4) (T 83)), sm 5 84])
 .ret))
 .skip)))))))
 (.seq (.reg [sm 85 0, sm 86 1, so 87 (.iaddr none (T 85) (T 86)), so 88 (.load none (T 87)), so 89 (.build [(.int .i64 (0)), (.int .i64 (0)), (.int .i64 (0))] [(0, 1, (T 88))]), sn (.store (some 3) (T 4) (T 89)), so 5 (.mv (C 1))])
 .ret)))))
theorem e_deflate_tellAt : slimC Tryz.prog 90 (Tryz.f131.body.getD .skip) = s_deflate_tellAt := by kernel_rfl
theorem r_deflate_tellAt : slimRes Tryz.prog Tryz.f131 = some [.cell 4 (some 3), .tmp 5] := by kernel_rfl
def s_bits_Len : SCode :=
 (.seq (.reg [so 2 (.mv (C 0))])
 (.seq (.cond (.const (.bool false))
 (.seq (.reg [sm 3 0, so 4 (.ci .u32 (T 3)), so 5 (.call true n_bits_Len32 [(T 4)]), sm 2 5])
 .ret)
 .skip)
 (.seq (.reg [sm 6 0, so 7 (.call true n_bits_Len64 [(T 6)]), sm 2 7])
 .ret)))
theorem e_bits_Len : slimC Tryz.prog 8 (Tryz.f146.body.getD .skip) = s_bits_Len := by kernel_rfl
theorem r_bits_Len : slimRes Tryz.prog Tryz.f146 = some [.tmp 2] := by kernel_rfl
def s_bits_Len64 : SCode :=
 (.seq (.reg [so 2 (.mv (C 0))])
 (.seq (.seq (.reg [sm 3 0, so 4 (.bin .geq (T 3) (.const (.int .u64 (4294967296))))])
 (.cond (T 4)
 (.seq (.reg [sm 5 0, so 6 (.bin .shr (T 5) (.const (.int .u64 (32)))), sm 0 6])
 (.reg [so 2 (.mv (C 32))]))
 .skip))
 (.seq (.seq (.reg [sm 7 0, so 8 (.bin .geq (T 7) (.const (.int .u64 (65536))))])
 (.cond (T 8)
 (.seq (.reg [sm 9 0, so 10 (.bin .shr (T 9) (.const (.int .u64 (16)))), sm 0 10])
 (.reg [sm 11 2, so 12 (.bin .add (T 11) (C 16)), sm 2 12]))
 .skip))
 (.seq (.seq (.reg [sm 13 0, so 14 (.bin .geq (T 13) (.const (.int .u64 (256))))])
 (.cond (T 14)
 (.seq (.reg [sm 15 0, so 16 (.bin .shr (T 15) (.const (.int .u64 (8)))), sm 0 16])
 (.reg [sm 17 2, so 18 (.bin .add (T 17) (C 8)), sm 2 18]))
 .skip))
 (.seq (.reg [sm 19 2, sm 20 0, so 21 (.ci .u8 (T 20)), so 22 (.idxS (.const (.string ⟨#[0, 1, 2, 2, 3, 3, 3, 3, 4, 4, 4, 4, 4, 4, 4, 4, 5, 5, 5, 5, 5, 5, 5, 5, 5, 5, 5, 5, 5, 5, 5, 5, 6, 6, 6, 6, 6, 6, 6, 6, 6, 6, 6, 6, 6, 6, 6, 6, 6, 6, 6, 6, 6, 6, 6, 6, 6, 6, 6, 6, 6, 6, 6, 6, 7, 7, 7, 7, 7, 7, 7, 7, 7, 7, 7, 7, 7, 7, 7, 7, 7, 7, 7, 7, 7, 7, 7, 7, 7, 7, 7, 7, 7, 7, 7, 7, 7, 7, 7, 7, 7, 7, 7, 7, 7, 7, 7, 7, 7, 7, 7, 7, 7, 7, 7, 7, 7, 7, 7, 7, 7, 7, 7, 7, 7, 7, 7, 7, 8, 8, 8, 8, 8, 8, 8, 8, 8, 8, 8, 8, 8, 8, 8, 8, 8, 8, 8, 8, 8, 8, 8, 8, 8, 8, 8, 8, 8, 8, 8, 8, 8, 8, 8, 8, 8, 8, 8, 8, 8, 8, 8, 8, 8, 8, 8, 8, 8, 8, 8, 8, 8, 8, 8, 8, 8, 8, 8, 8, 8, 8, 8, 8, 8, 8, 8, 8, 8, 8, 8, 8, 8, 8, 8, 8, 8, 8, 8, 8, 8, 8, 8, 8, 8, 8, 8, 8, 8, 8, 8, 8, 8, 8, 8, 8, 8, 8, 8, 8, 8, 8, 8, 8, 8, 8, 8, 8, 8, 8, 8, 8, 8, 8, 8, 8, 8, 8, 8, 8, 8, 8, 8, 8, 8, 8, 8, 8]⟩)) (T 21)), so 23 (.ci .i64 (T 22)), so 24 (.bin .add (T 19) (T 23)), sm 2 24])
 .ret)))))
theorem e_bits_Len64 : slimC Tryz.prog 25 (Tryz.f152.body.getD .skip) = s_bits_Len64 := by kernel_rfl
theorem r_bits_Len64 : slimRes Tryz.prog Tryz.f152 = some [.tmp 2] := by kernel_rfl
def s_huff_cheapest : SCode :=
 (.seq (.reg [so 4 (.mv (.const (.slice none 0 0)))])
 (.seq (.seq (.reg [sm 6 0, so 7 (.len false (T 6)), so 8 (.bin .lss (T 7) (C 2))])
 (.cond (T 8)
 (.seq (.reg [sm 9 0, sm 4 9])
 .ret)
 .skip))
 (.seq (.reg [sm 10 0, so 11 (.call true n_slices_SortStableFunchuff_batchhuff_batch [(T 10), (.func n_huff_byCount)])])
 (.seq (.reg [sm 12 0, sm 5 12])
 (.seq (.seq (.reg [sm 13 1, so 14 (.bin .sub (T 13) (C 1)), so 15 (.mv (C 0))])
 (.block 0
 (.loop
 (.seq (.reg [so 16 (.bin .lss (T 15) (T 14))])
 (.seq (.cond (T 16)
 .skip
 (.exit 0))
 (.seq (.block 1
 (.seq (.reg [sm 17 0, sm 18 5, so 19 (.call true n_huff_pairs [(T 18)]), so 20 (.bslice none [(T 17), (T 19)]), so 21 (.call true n_slices_Concathuff_batchhuff_batch [(T 20)]), sm 5 21])
 (.reg [sm 22 5, so 23 (.call true n_slices_SortStableFunchuff_batchhuff_batch [(T 22), (.func n_huff_byCount)])])))
 (.reg [so 24 (.bin .add (T 15) (C 1)), sm 15 24])))))))
 (.seq (.reg [sm 25 5, sm 26 0, so 27 (.len false (T 26)), so 28 (.bin .mul (C 2) (T 27)), so 29 (.bin .sub (T 28) (C 2)), so 30 (.sl (some 2) (T 25) none (some (T 29))), sm 4 30])
 .ret))))))
theorem e_huff_cheapest : slimC Tryz.prog 31 (Tryz.f149.body.getD .skip) = s_huff_cheapest := by kernel_rfl
theorem r_huff_cheapest : slimRes Tryz.prog Tryz.f149 = some [.tmp 4] := by kernel_rfl
def s_slices_SortStableFunchuff_batchhuff_batch : SCode :=
 (.reg [sm 4 0, sm 5 0, so 6 (.len false (T 5)), sm 7 1, so 8 (.call true n_slices_stableCmpFunchuff_batch [(T 4), (T 6), (T 7)])])
theorem e_slices_SortStableFunchuff_batchhuff_batch : slimC Tryz.prog 9 (Tryz.f153.body.getD .skip) = s_slices_SortStableFunchuff_batchhuff_batch := by kernel_rfl
theorem r_slices_SortStableFunchuff_batchhuff_batch : slimRes Tryz.prog Tryz.f153 = some [] := by kernel_rfl
def s_huff_byCount : SCode :=
 (.seq (.reg [so 2 (.box (T 0)), so 3 (.box (T 1)), so 4 (.mv (C 0))])
 (.seq (.reg [so 5 (.faddr 0 (T 2)), so 6 (.load none (T 5)), so 7 (.faddr 0 (T 3)), so 8 (.load none (T 7)), so 9 (.call true n_cmp_Compareint [(T 6), (T 8)]), sm 4 9])
 .ret))
theorem e_huff_byCount : slimC Tryz.prog 10 (Tryz.f154.body.getD .skip) = s_huff_byCount := by kernel_rfl
theorem r_huff_byCount : slimRes Tryz.prog Tryz.f154 = some [.tmp 4] := by kernel_rfl
def s_slices_Concathuff_batchhuff_batch : SCode :=
 (.seq (.reg [so 2 (.mv (.const (.slice none 0 0)))])
 (.seq (.reg [so 3 (.mv (C 0))])
 (.seq (.seq (.reg [sm 9 0, so 10 (.len false (T 9)), so 11 (.mv (C 0))])
 (.block 0
 (.loop
 (.seq (.reg [so 12 (.bin .lss (T 11) (T 10))])
 (.seq (.cond (T 12)
 .skip
 (.exit 0))
 (.seq (.block 1
 (.seq (.reg [so 13 (.iaddr none (T 9) (T 11)), so 14 (.load none (T 13)), sm 5 14])
 (.seq (.reg [sm 15 3, sm 16 5, so 17 (.len false (T 16)), so 18 (.bin .add (T 15) (T 17)), sm 3 18])
 (.seq (.reg [sm 19 3, so 20 (.bin .lss (T 19) (C 0))])
 (.cond (T 20)
 (.reg [so 21 (.no), sn (.no)])
 .skip)))))
 (.reg [so 22 (.bin .add (T 11) (C 1)), sm 11 22])))))))
 (.seq (.reg [sm 23 3, so 24 (.call true n_slices_Growhuff_batchhuff_batch [(.const (.slice none 0 0)), (T 23)]), sm 6 24])
 (.seq (.seq (.reg [sm 25 0, so 26 (.len false (T 25)), so 27 (.mv (C 0))])
 (.block 2
 (.loop
 (.seq (.reg [so 28 (.bin .lss (T 27) (T 26))])
 (.seq (.cond (T 28)
 .skip
 (.exit 2))
 (.seq (.block 3
 (.seq (.reg [so 29 (.iaddr none (T 25) (T 27)), so 30 (.load none (T 29)), sm 8 30])
 (.reg [sm 31 6, sm 32 8, so 33 (.app (some 2) 32 (T 31) (T 32)), sm 6 33])))
 (.reg [so 34 (.bin .add (T 27) (C 1)), sm 27 34])))))))
 (.seq (.reg [sm 35 6, sm 2 35])
 .ret))))))
theorem e_slices_Concathuff_batchhuff_batch : slimC Tryz.prog 36 (Tryz.f155.body.getD .skip) = s_slices_Concathuff_batchhuff_batch := by kernel_rfl
theorem r_slices_Concathuff_batchhuff_batch : slimRes Tryz.prog Tryz.f155 = some [.tmp 2] := by kernel_rfl
def s_huff_pairs : SCode :=
 (.seq (.reg [so 2 (.mv (.const (.slice none 0 0)))])
 (.seq (.reg [so 3 (.mv (.const (.slice none 0 0)))])
 (.seq (.seq (.reg [so 4 (.mv (C 1))])
 (.block 0
 (.loop
 (.seq (.seq (.reg [sm 7 4, sm 8 0, so 9 (.len false (T 8)), so 10 (.bin .lss (T 7) (T 9))])
 (.cond (T 10)
 .skip
 (.exit 0)))
 (.seq (.block 1
 (.seq (.reg [sm 13 0, sm 14 4, so 15 (.bin .sub (T 14) (C 1)), so 16 (.iaddr (some 2) (T 13) (T 15)), so 17 (.load (some 2) (T 16)), sm 18 0, sm 19 4, so 20 (.iaddr (some 2) (T 18) (T 19)), so 21 (.load (some 2) (T 20)), so 5 (.alloc [(.int .i64 (0)), (.slice none 0 0)]), sn (.store (some 2) (T 5) (T 17)), so 6 (.alloc [(.int .i64 (0)), (.slice none 0 0)]), sn (.store (some 2) (T 6) (T 21))])
 (.reg [sm 22 3, so 23 (.faddr 0 (T 5)), so 24 (.load none (T 23)), so 25 (.faddr 0 (T 6)), so 26 (.load none (T 25)), so 27 (.bin .add (T 24) (T 26)), so 28 (.faddr 1 (T 5)), so 29 (.load none (T 28)), so 30 (.faddr 1 (T 6)), so 31 (.load none (T 30)), so 32 (.bslice none [(T 29), (T 31)]), so 33 (.call false n_slices_Concatintint [(T 32)]), so 34 (.build [(.int .i64 (0)), (.slice none 0 0)] [(0, 1, (T 27)), (1, 1, (T 33))]), so 35 (.bslice (some 2) [(T 34)]), so 36 (.app (some 2) 32 (T 22) (T 35)), sm 3 36])))
 (.reg [sm 11 4, so 12 (.bin .add (T 11) (C 2)), sm 4 12]))))))
 (.seq (.reg [sm 37 3, sm 2 37])
 .ret))))
theorem e_huff_pairs : slimC Tryz.prog 38 (Tryz.f156.body.getD .skip) = s_huff_pairs := by kernel_rfl
theorem r_huff_pairs : slimRes Tryz.prog Tryz.f156 = some [.tmp 2] := by kernel_rfl
def s_slices_stableCmpFunchuff_batch : SCode :=
 (.seq (.reg [so 6 (.mv (C 20))])
 (.seq (.reg [sm 10 6, so 7 (.mv (C 0)), sm 8 10])
 (.seq (.block 0
 (.loop
 (.seq (.seq (.reg [sm 11 8, sm 12 1, so 13 (.bin .leq (T 11) (T 12))])
 (.cond (T 13)
 .skip
 (.exit 0)))
 (.block 1
 (.seq (.reg [sm 14 0, sm 15 7, sm 16 8, sm 17 2, so 18 (.call true n_slices_insertionSortCmpFunchuff_batch [(T 14), (T 15), (T 16), (T 17)])])
 (.seq (.reg [sm 19 8, sm 7 19])
 (.reg [sm 20 8, sm 21 6, so 22 (.bin .add (T 20) (T 21)), sm 8 22])))))))
 (.seq (.reg [sm 23 0, sm 24 7, sm 25 1, sm 26 2, so 27 (.call true n_slices_insertionSortCmpFunchuff_batch [(T 23), (T 24), (T 25), (T 26)])])
 (.block 2
 (.loop
 (.seq (.seq (.reg [sm 28 6, sm 29 1, so 30 (.bin .lss (T 28) (T 29))])
 (.cond (T 30)
 .skip
 (.exit 2)))
 (.block 3
 (.seq (.reg [sm 31 6, so 32 (.bin .mul (C 2) (T 31)), so 7 (.mv (C 0)), sm 8 32])
 (.seq (.block 4
 (.loop
 (.seq (.seq (.reg [sm 33 8, sm 34 1, so 35 (.bin .leq (T 33) (T 34))])
 (.cond (T 35)
 .skip
 (.exit 4)))
 (.block 5
 (.seq (.reg [sm 36 0, sm 37 7, sm 38 7, sm 39 6, so 40 (.bin .add (T 38) (T 39)), sm 41 8, sm 42 2, so 43 (.call true n_slices_symMergeCmpFunchuff_batch [(T 36), (T 37), (T 40), (T 41), (T 42)])])
 (.seq (.reg [sm 44 8, sm 7 44])
 (.reg [sm 45 8, sm 46 6, so 47 (.bin .mul (C 2) (T 46)), so 48 (.bin .add (T 45) (T 47)), sm 8 48])))))))
 (.seq (.seq (.reg [sm 49 7, sm 50 6, so 51 (.bin .add (T 49) (T 50)), sm 9 51])
 (.seq (.reg [sm 52 9, sm 53 1, so 54 (.bin .lss (T 52) (T 53))])
 (.cond (T 54)
 (.reg [sm 55 0, sm 56 7, sm 57 9, sm 58 1, sm 59 2, so 60 (.call true n_slices_symMergeCmpFunchuff_batch [(T 55), (T 56), (T 57), (T 58), (T 59)])])
 .skip)))
 (.reg [sm 61 6, so 62 (.bin .mul (T 61) (C 2)), sm 6 62]))))))))))))
theorem e_slices_stableCmpFunchuff_batch : slimC Tryz.prog 63 (Tryz.f157.body.getD .skip) = s_slices_stableCmpFunchuff_batch := by kernel_rfl
theorem r_slices_stableCmpFunchuff_batch : slimRes Tryz.prog Tryz.f157 = some [] := by kernel_rfl
def s_cmp_Compareint : SCode :=
 (.seq (.reg [so 4 (.mv (C 0))])
 (.seq (.reg [sm 7 0, so 8 (.call true n_cmp_isNaNint [(T 7)]), sm 5 8])
 (.seq (.reg [sm 9 1, so 10 (.call true n_cmp_isNaNint [(T 9)]), sm 6 10])
 (.seq (.seq (.reg [sm 11 5])
 (.cond (T 11)
 (.seq (.seq (.reg [sm 12 6])
 (.cond (T 12)
 (.seq (.reg [so 4 (.mv (C 0))])
 .ret)
 .skip))
 (.seq (.reg [so 4 (.mv (C (-1)))])
 .ret))
 .skip))
 (.seq (.seq (.reg [sm 13 6])
 (.cond (T 13)
 (.seq (.reg [so 4 (.mv (C 1))])
 .ret)
 .skip))
 (.seq (.seq (.reg [sm 14 0, sm 15 1, so 16 (.bin .lss (T 14) (T 15))])
 (.cond (T 16)
 (.seq (.reg [so 4 (.mv (C (-1)))])
 .ret)
 .skip))
 (.seq (.seq (.reg [sm 17 0, sm 18 1, so 19 (.bin .gtr (T 17) (T 18))])
 (.cond (T 19)
 (.seq (.reg [so 4 (.mv (C 1))])
 .ret)
 .skip))
 (.seq (.reg [so 4 (.mv (C 0))])
 .ret))))))))
theorem e_cmp_Compareint : slimC Tryz.prog 20 (Tryz.f158.body.getD .skip) = s_cmp_Compareint := by kernel_rfl
theorem r_cmp_Compareint : slimRes Tryz.prog Tryz.f158 = some [.tmp 4] := by kernel_rfl
def s_slices_Growhuff_batchhuff_batch : SCode :=
 (.seq (.reg [so 4 (.mv (.const (.slice none 0 0)))])
 (.seq (.seq (.reg [sm 5 1, so 6 (.bin .lss (T 5) (C 0))])
 (.cond (T 6)
 (.reg [so 7 (.no), sn (.no)])
 .skip))
 (.seq (.seq (.reg [sm 8 1, sm 9 0, so 10 (.capn (T 9)), sm 11 0, so 12 (.len false (T 11)), so 13 (.bin .sub (T 10) (T 12)), so 14 (.bin .sub (T 8) (T 13)), sm 1 14])
 (.seq (.reg [sm 15 1, so 16 (.bin .gtr (T 15) (C 0))])
 (.cond (T 16)
 (.reg [sm 17 0, sm 18 0, so 19 (.capn (T 18)), so 20 (.sl (some 2) (T 17) none (some (T 19))), sm 21 1, so 22 (.appz (some 2) 32 [(.int .i64 (0)), (.slice none 0 0)] (T 20) (T 21)), sm 23 0, so 24 (.len false (T 23)), so 25 (.sl (some 2) (T 22) none (some (T 24))), sm 0 25])
 .skip)))
 (.seq (.reg [sm 26 0, sm 4 26])
 .ret))))
theorem e_slices_Growhuff_batchhuff_batch : slimC Tryz.prog 27 (Tryz.f159.body.getD .skip) = s_slices_Growhuff_batchhuff_batch := by kernel_rfl
theorem r_slices_Growhuff_batchhuff_batch : slimRes Tryz.prog Tryz.f159 = some [.tmp 4] := by kernel_rfl
def s_slices_insertionSortCmpFunchuff_batch : SCode :=
 (.seq (.reg [sm 10 1, so 11 (.bin .add (T 10) (C 1)), sm 8 11])
 (.block 0
 (.loop
 (.seq (.seq (.reg [sm 12 8, sm 13 2, so 14 (.bin .lss (T 12) (T 13))])
 (.cond (T 14)
 .skip
 (.exit 0)))
 (.seq (.block 1
 (.seq (.reg [sm 17 8, sm 9 17])
 (.block 2
 (.loop
 (.seq (.seq (.reg [sm 18 9, sm 19 1, so 20 (.bin .gtr (T 18) (T 19)), sm 21 20, sg 22 (.mv (T 3)) 21 true, sg 23 (.mv (T 0)) 21 true, sg 24 (.mv (T 9)) 21 true, sg 25 (.iaddr (some 2) (T 23) (T 24)) 21 true, sg 26 (.load (some 2) (T 25)) 21 true, sg 27 (.mv (T 0)) 21 true, sg 28 (.mv (T 9)) 21 true, sg 29 (.bin .sub (T 28) (C 1)) 21 true, sg 30 (.iaddr (some 2) (T 27) (T 29)) 21 true, sg 31 (.load (some 2) (T 30)) 21 true, sg 32 (.callv true (T 22) [(T 26), (T 31)]) 21 true, sg 33 (.bin .lss (T 32) (C 0)) 21 true, so 34 (.pick (T 21) (T 33) (.const (.bool false)))])
 (.cond (T 34)
 .skip
 (.exit 2)))
 (.seq (.block 3
 (.reg [sm 37 0, sm 38 9, sm 39 0, sm 40 9, so 41 (.bin .sub (T 40) (C 1)), sm 42 0, sm 43 9, so 44 (.bin .sub (T 43) (C 1)), so 45 (.iaddr (some 2) (T 42) (T 44)), so 46 (.load (some 2) (T 45)), sm 47 0, sm 48 9, so 49 (.iaddr (some 2) (T 47) (T 48)), so 50 (.load (some 2) (T 49)), so 51 (.iaddr (some 2) (T 37) (T 38)), sn (.store (some 2) (T 51) (T 46)), so 52 (.iaddr (some 2) (T 39) (T 41)), sn (.store (some 2) (T 52) (T 50))]))
 (.reg [sm 35 9, so 36 (.bin .sub (T 35) (C 1)), sm 9 36])))))))
 (.reg [sm 15 8, so 16 (.bin .add (T 15) (C 1)), sm 8 16]))))))
theorem e_slices_insertionSortCmpFunchuff_batch : slimC Tryz.prog 53 (Tryz.f160.body.getD .skip) = s_slices_insertionSortCmpFunchuff_batch := by kernel_rfl
theorem r_slices_insertionSortCmpFunchuff_batch : slimRes Tryz.prog Tryz.f160 = some [] := by kernel_rfl
def s_slices_symMergeCmpFunchuff_batch : SCode :=
 (.seq (.seq (.reg [sm 25 2, sm 26 1, so 27 (.bin .sub (T 25) (T 26)), so 28 (.bin .eql (T 27) (C 1))])
 (.cond (T 28)
 (.seq (.reg [sm 29 2, sm 10 29])
 (.seq (.reg [sm 30 3, sm 11 30])
 (.seq (.block 0
 (.loop
 (.seq (.seq (.reg [sm 31 10, sm 32 11, so 33 (.bin .lss (T 31) (T 32))])
 (.cond (T 33)
 .skip
 (.exit 0)))
 (.block 1
 (.seq (.reg [sm 34 10, sm 35 11, so 36 (.bin .add (T 34) (T 35)), so 37 (.ci .u64 (T 36)), so 38 (.bin .shr (T 37) (.const (.int .u64 (1)))), so 39 (.ci .i64 (T 38)), sm 12 39])
 (.seq (.reg [sm 40 4, sm 41 0, sm 42 12, so 43 (.iaddr (some 2) (T 41) (T 42)), so 44 (.load (some 2) (T 43)), sm 45 0, sm 46 1, so 47 (.iaddr (some 2) (T 45) (T 46)), so 48 (.load (some 2) (T 47)), so 49 (.callv true (T 40) [(T 44), (T 48)]), so 50 (.bin .lss (T 49) (C 0))])
 (.cond (T 50)
 (.reg [sm 51 12, so 52 (.bin .add (T 51) (C 1)), sm 10 52])
 (.reg [sm 53 12, sm 11 53]))))))))
 (.seq (.seq (.reg [sm 54 1, sm 13 54])
 (.block 2
 (.loop
 (.seq (.seq (.reg [sm 55 13, sm 56 10, so 57 (.bin .sub (T 56) (C 1)), so 58 (.bin .lss (T 55) (T 57))])
 (.cond (T 58)
 .skip
 (.exit 2)))
 (.seq (.block 3
 (.reg [sm 61 0, sm 62 13, sm 63 0, sm 64 13, so 65 (.bin .add (T 64) (C 1)), sm 66 0, sm 67 13, so 68 (.bin .add (T 67) (C 1)), so 69 (.iaddr (some 2) (T 66) (T 68)), so 70 (.load (some 2) (T 69)), sm 71 0, sm 72 13, so 73 (.iaddr (some 2) (T 71) (T 72)), so 74 (.load (some 2) (T 73)), so 75 (.iaddr (some 2) (T 61) (T 62)), sn (.store (some 2) (T 75) (T 70)), so 76 (.iaddr (some 2) (T 63) (T 65)), sn (.store (some 2) (T 76) (T 74))]))
 (.reg [sm 59 13, so 60 (.bin .add (T 59) (C 1)), sm 13 60]))))))
 .ret))))
 .skip))
 (.seq (.seq (.reg [sm 77 3, sm 78 2, so 79 (.bin .sub (T 77) (T 78)), so 80 (.bin .eql (T 79) (C 1))])
 (.cond (T 80)
 (.seq (.reg [sm 81 1, sm 14 81])
 (.seq (.reg [sm 82 2, sm 15 82])
 (.seq (.block 4
 (.loop
 (.seq (.seq (.reg [sm 83 14, sm 84 15, so 85 (.bin .lss (T 83) (T 84))])
 (.cond (T 85)
 .skip
 (.exit 4)))
 (.block 5
 (.seq (.reg [sm 86 14, sm 87 15, so 88 (.bin .add (T 86) (T 87)), so 89 (.ci .u64 (T 88)), so 90 (.bin .shr (T 89) (.const (.int .u64 (1)))), so 91 (.ci .i64 (T 90)), sm 16 91])
 (.seq (.reg [sm 92 4, sm 93 0, sm 94 2, so 95 (.iaddr (some 2) (T 93) (T 94)), so 96 (.load (some 2) (T 95)), sm 97 0, sm 98 16, so 99 (.iaddr (some 2) (T 97) (T 98)), so 100 (.load (some 2) (T 99)), so 101 (.callv true (T 92) [(T 96), (T 100)]), so 102 (.bin .lss (T 101) (C 0)), so 103 (.un .not (T 102))])
 (.cond (T 103)
 (.reg [sm 104 16, so 105 (.bin .add (T 104) (C 1)), sm 14 105])
 (.reg [sm 106 16, sm 15 106]))))))))
 (.seq (.seq (.reg [sm 107 2, sm 17 107])
 (.block 6
 (.loop
 (.seq (.seq (.reg [sm 108 17, sm 109 14, so 110 (.bin .gtr (T 108) (T 109))])
 (.cond (T 110)
 .skip
 (.exit 6)))
 (.seq (.block 7
 (.reg [sm 113 0, sm 114 17, sm 115 0, sm 116 17, so 117 (.bin .sub (T 116) (C 1)), sm 118 0, sm 119 17, so 120 (.bin .sub (T 119) (C 1)), so 121 (.iaddr (some 2) (T 118) (T 120)), so 122 (.load (some 2) (T 121)), sm 123 0, sm 124 17, so 125 (.iaddr (some 2) (T 123) (T 124)), so 126 (.load (some 2) (T 125)), so 127 (.iaddr (some 2) (T 113) (T 114)), sn (.store (some 2) (T 127) (T 122)), so 128 (.iaddr (some 2) (T 115) (T 117)), sn (.store (some 2) (T 128) (T 126))]))
 (.reg [sm 111 17, so 112 (.bin .sub (T 111) (C 1)), sm 17 112]))))))
 .ret))))
 .skip))
 (.seq (.reg [sm 129 1, sm 130 3, so 131 (.bin .add (T 129) (T 130)), so 132 (.ci .u64 (T 131)), so 133 (.bin .shr (T 132) (.const (.int .u64 (1)))), so 134 (.ci .i64 (T 133)), sm 18 134])
 (.seq (.reg [sm 135 18, sm 136 2, so 137 (.bin .add (T 135) (T 136)), sm 19 137])
 (.seq (.reg [so 20 (.mv (C 0)), so 21 (.mv (C 0))])
 (.seq (.seq (.reg [sm 138 2, sm 139 18, so 140 (.bin .gtr (T 138) (T 139))])
 (.cond (T 140)
 (.seq (.reg [sm 141 19, sm 142 3, so 143 (.bin .sub (T 141) (T 142)), sm 20 143])
 (.reg [sm 144 18, sm 21 144]))
 (.seq (.reg [sm 145 1, sm 20 145])
 (.reg [sm 146 2, sm 21 146]))))
 (.seq (.reg [sm 147 19, so 148 (.bin .sub (T 147) (C 1)), sm 22 148])
 (.seq (.block 8
 (.loop
 (.seq (.seq (.reg [sm 149 20, sm 150 21, so 151 (.bin .lss (T 149) (T 150))])
 (.cond (T 151)
 .skip
 (.exit 8)))
 (.block 9
 (.seq (.reg [sm 152 20, sm 153 21, so 154 (.bin .add (T 152) (T 153)), so 155 (.ci .u64 (T 154)), so 156 (.bin .shr (T 155) (.const (.int .u64 (1)))), so 157 (.ci .i64 (T 156)), sm 23 157])
 (.seq (.reg [sm 158 4, sm 159 0, sm 160 22, sm 161 23, so 162 (.bin .sub (T 160) (T 161)), so 163 (.iaddr (some 2) (T 159) (T 162)), so 164 (.load (some 2) (T 163)), sm 165 0, sm 166 23, so 167 (.iaddr (some 2) (T 165) (T 166)), so 168 (.load (some 2) (T 167)), so 169 (.callv true (T 158) [(T 164), (T 168)]), so 170 (.bin .lss (T 169) (C 0)), so 171 (.un .not (T 170))])
 (.cond (T 171)
 (.reg [sm 172 23, so 173 (.bin .add (T 172) (C 1)), sm 20 173])
 (.reg [sm 174 23, sm 21 174]))))))))
 (.seq (.reg [sm 175 19, sm 176 20, so 177 (.bin .sub (T 175) (T 176)), sm 24 177])
 (.seq (.seq (.reg [sm 178 20, sm 179 2, so 180 (.bin .lss (T 178) (T 179)), sm 181 180, sg 182 (.mv (T 2)) 181 true, sg 183 (.mv (T 24)) 181 true, sg 184 (.bin .lss (T 182) (T 183)) 181 true, so 185 (.pick (T 181) (T 184) (.const (.bool false)))])
 (.cond (T 185)
 (.reg [sm 186 0, sm 187 20, sm 188 2, sm 189 24, sm 190 4, so 191 (.call true n_slices_rotateCmpFunchuff_batch [(T 186), (T 187), (T 188), (T 189), (T 190)])])
 .skip))
 (.seq (.seq (.reg [sm 192 1, sm 193 20, so 194 (.bin .lss (T 192) (T 193)), sm 195 194, sg 196 (.mv (T 20)) 195 true, sg 197 (.mv (T 18)) 195 true, sg 198 (.bin .lss (T 196) (T 197)) 195 true, so 199 (.pick (T 195) (T 198) (.const (.bool false)))])
 (.cond (T 199)
 (.reg [sm 200 0, sm 201 1, sm 202 20, sm 203 18, sm 204 4, so 205 (.call true n_slices_symMergeCmpFunchuff_batch [(T 200), (T 201), (T 202), (T 203), (T 204)])])
 .skip))
 (.seq (.reg [sm 206 18, sm 207 24, so 208 (.bin .lss (T 206) (T 207)), sm 209 208, sg 210 (.mv (T 24)) 209 true, sg 211 (.mv (T 3)) 209 true, sg 212 (.bin .lss (T 210) (T 211)) 209 true, so 213 (.pick (T 209) (T 212) (.const (.bool false)))])
 (.cond (T 213)
 (.reg [sm 214 0, sm 215 18, sm 216 24, sm 217 3, sm 218 4, so 219 (.call true n_slices_symMergeCmpFunchuff_batch [(T 214), (T 215), (T 216), (T 217), (T 218)])])
 .skip)))))))))))))
theorem e_slices_symMergeCmpFunchuff_batch : slimC Tryz.prog 220 (Tryz.f161.body.getD .skip) = s_slices_symMergeCmpFunchuff_batch := by kernel_rfl
theorem r_slices_symMergeCmpFunchuff_batch : slimRes Tryz.prog Tryz.f161 = some [] := by kernel_rfl
def s_cmp_isNaNint : SCode :=
 (.seq (.reg [so 2 (.mv (.const (.bool false)))])
 (.seq (.reg [sm 3 0, sm 4 0, so 5 (.bin .neq (T 3) (T 4)), sm 2 5])
 .ret))
theorem e_cmp_isNaNint : slimC Tryz.prog 6 (Tryz.f162.body.getD .skip) = s_cmp_isNaNint := by kernel_rfl
theorem r_cmp_isNaNint : slimRes Tryz.prog Tryz.f162 = some [.tmp 2] := by kernel_rfl
def s_slices_rotateCmpFunchuff_batch : SCode :=
 (.seq (.reg [sm 12 2, sm 13 1, so 14 (.bin .sub (T 12) (T 13)), sm 10 14])
 (.seq (.reg [sm 15 3, sm 16 2, so 17 (.bin .sub (T 15) (T 16)), sm 11 17])
 (.seq (.block 0
 (.loop
 (.seq (.seq (.reg [sm 18 10, sm 19 11, so 20 (.bin .neq (T 18) (T 19))])
 (.cond (T 20)
 .skip
 (.exit 0)))
 (.block 1
 (.seq (.reg [sm 21 10, sm 22 11, so 23 (.bin .gtr (T 21) (T 22))])
 (.cond (T 23)
 (.seq (.reg [sm 24 0, sm 25 2, sm 26 10, so 27 (.bin .sub (T 25) (T 26)), sm 28 2, sm 29 11, sm 30 4, so 31 (.call true n_slices_swapRangeCmpFunchuff_batch [(T 24), (T 27), (T 28), (T 29), (T 30)])])
 (.reg [sm 32 10, sm 33 11, so 34 (.bin .sub (T 32) (T 33)), sm 10 34]))
 (.seq (.reg [sm 35 0, sm 36 2, sm 37 10, so 38 (.bin .sub (T 36) (T 37)), sm 39 2, sm 40 11, so 41 (.bin .add (T 39) (T 40)), sm 42 10, so 43 (.bin .sub (T 41) (T 42)), sm 44 10, sm 45 4, so 46 (.call true n_slices_swapRangeCmpFunchuff_batch [(T 35), (T 38), (T 43), (T 44), (T 45)])])
 (.reg [sm 47 11, sm 48 10, so 49 (.bin .sub (T 47) (T 48)), sm 11 49]))))))))
 (.reg [sm 50 0, sm 51 2, sm 52 10, so 53 (.bin .sub (T 51) (T 52)), sm 54 2, sm 55 10, sm 56 4, so 57 (.call true n_slices_swapRangeCmpFunchuff_batch [(T 50), (T 53), (T 54), (T 55), (T 56)])]))))
theorem e_slices_rotateCmpFunchuff_batch : slimC Tryz.prog 58 (Tryz.f163.body.getD .skip) = s_slices_rotateCmpFunchuff_batch := by kernel_rfl
theorem r_slices_rotateCmpFunchuff_batch : slimRes Tryz.prog Tryz.f163 = some [] := by kernel_rfl
def s_slices_swapRangeCmpFunchuff_batch : SCode :=
 (.seq (.reg [so 10 (.mv (C 0))])
 (.block 0
 (.loop
 (.seq (.seq (.reg [sm 11 10, sm 12 3, so 13 (.bin .lss (T 11) (T 12))])
 (.cond (T 13)
 .skip
 (.exit 0)))
 (.seq (.block 1
 (.reg [sm 16 0, sm 17 1, sm 18 10, so 19 (.bin .add (T 17) (T 18)), sm 20 0, sm 21 2, sm 22 10, so 23 (.bin .add (T 21) (T 22)), sm 24 0, sm 25 2, sm 26 10, so 27 (.bin .add (T 25) (T 26)), so 28 (.iaddr (some 2) (T 24) (T 27)), so 29 (.load (some 2) (T 28)), sm 30 0, sm 31 1, sm 32 10, so 33 (.bin .add (T 31) (T 32)), so 34 (.iaddr (some 2) (T 30) (T 33)), so 35 (.load (some 2) (T 34)), so 36 (.iaddr (some 2) (T 16) (T 19)), sn (.store (some 2) (T 36) (T 29)), so 37 (.iaddr (some 2) (T 20) (T 23)), sn (.store (some 2) (T 37) (T 35))]))
 (.reg [sm 14 10, so 15 (.bin .add (T 14) (C 1)), sm 10 15]))))))
theorem e_slices_swapRangeCmpFunchuff_batch : slimC Tryz.prog 38 (Tryz.f164.body.getD .skip) = s_slices_swapRangeCmpFunchuff_batch := by kernel_rfl
theorem r_slices_swapRangeCmpFunchuff_batch : slimRes Tryz.prog Tryz.f164 = some [] := by kernel_rfl
def s_drayageref02_Crc : SCode :=
 (.seq (.reg [so 2 (.mv (.const (.int .u32 (0))))])
 (.seq (.reg [so 3 (.mv (.const (.int .u32 (4294967295))))])
 (.seq (.seq (.reg [so 4 (.mv (C 0))])
 (.block 0
 (.loop
 (.seq (.seq (.reg [sm 7 4, sm 8 0, so 9 (.len false (T 8)), so 10 (.bin .lss (T 7) (T 9))])
 (.cond (T 10)
 .skip
 (.exit 0)))
 (.seq (.block 1
 (.seq (.reg [sm 13 3, sm 14 0, sm 15 4, so 16 (.iaddr none (T 14) (T 15)), so 17 (.load none (T 16)), so 18 (.ci .u32 (T 17)), so 19 (.bin .xor (T 13) (T 18)), sm 3 19])
 (.seq (.reg [so 5 (.mv (C 0))])
 (.block 2
 (.loop
 (.seq (.seq (.reg [sm 20 5, so 21 (.bin .lss (T 20) (C 8))])
 (.cond (T 21)
 .skip
 (.exit 2)))
 (.seq (.block 3
 (.seq (.reg [sm 24 3, so 25 (.bin .rem (T 24) (.const (.int .u32 (2)))), so 26 (.bin .eql (T 25) (.const (.int .u32 (1)))), sm 6 26])
 (.seq (.reg [sm 27 3, so 28 (.bin .quo (T 27) (.const (.int .u32 (2)))), sm 3 28])
 (.seq (.reg [sm 29 6])
 (.cond (T 29)
 (.reg [sm 30 3, so 31 (.bin .xor (T 30) (.const (.int .u32 (3988292384)))), sm 3 31])
 .skip)))))
 (.reg [sm 22 5, so 23 (.bin .add (T 22) (C 1)), sm 5 23]))))))))
 (.reg [sm 11 4, so 12 (.bin .add (T 11) (C 1)), sm 4 12]))))))
 (.seq (.reg [sm 32 3, so 33 (.un .xor (T 32)), sm 2 33])
 .ret))))
theorem e_drayageref02_Crc : slimC Tryz.prog 34 (Tryz.f42.body.getD .skip) = s_drayageref02_Crc := by kernel_rfl
theorem r_drayageref02_Crc : slimRes Tryz.prog Tryz.f42 = some [.tmp 2] := by kernel_rfl
def s_drayagelaw06_GzipPacks : SCode :=
 (.seq (.reg [so 2 (.box (T 0)), so 4 (.mv (.const (.bool false)))])
 (.seq (.seq (.reg [so 10 (.call true n_drayagelaw06_awake []), so 11 (.un .not (T 10))])
 (.cond (T 11)
 (.seq (.reg [so 4 (.mv (.const (.bool false)))])
 .ret)
 .skip))
 (.seq (.seq (.reg [so 12 (.faddr 2 (T 2)), so 13 (.load none (T 12)), so 14 (.len false (T 13)), so 15 (.bin .gtr (T 14) (C 3000)), sm 16 15, sg 17 (.faddr 0 (T 2)) 16 false, sg 18 (.load none (T 17)) 16 false, sg 19 (.len true (T 18)) 16 false, sg 20 (.bin .gtr (T 19) (C 1000)) 16 false, so 21 (.pick (T 16) (.const (.bool true)) (T 20))])
 (.cond (T 21)
 (.seq (.reg [so 4 (.mv (.const (.bool true)))])
 .ret)
 .skip))
 (.seq (.reg [so 23 (.load (some 3) (T 2)), sm 24 1, so 25 (.call true n_gzip_Pack [(T 23), (T 24)]), sm 22 25, so 26 (.ext (T 22) 0), so 27 (.ext (T 22) 1), sm 5 26, sm 6 27])
 (.seq (.reg [so 29 (.faddr 2 (T 2)), so 30 (.load none (T 29)), sm 31 1, so 32 (.call true n_deflate_Deflate [(T 30), (T 31)]), sm 28 32, so 33 (.ext (T 28) 0), so 34 (.ext (T 28) 1), sm 7 33, sm 8 34])
 (.seq (.seq (.reg [so 35 (.load (some 3) (T 2)), so 36 (.call true n_drayageref06_Bad [(T 35)]), sm 9 36])
 (.seq (.reg [sm 37 9, so 38 (.bin .neq (T 37) (C 0))])
 (.cond (T 38)
 (.seq (.reg [sm 39 5, so 40 (.len false (T 39)), so 41 (.bin .eql (T 40) (C 0)), sm 42 41, sg 43 (.mv (T 6)) 42 true, sg 44 (.mv (T 9)) 42 true, sg 45 (.bin .eql (T 43) (T 44)) 42 true, so 46 (.pick (T 42) (T 45) (.const (.bool false))), sm 4 46])
 .ret)
 .skip)))
 (.seq (.seq (.reg [sm 47 8, so 48 (.bin .neq (T 47) (C 0))])
 (.cond (T 48)
 (.seq (.reg [sm 49 5, so 50 (.len false (T 49)), so 51 (.bin .eql (T 50) (C 0)), sm 52 51, sg 53 (.mv (T 6)) 52 true, sg 54 (.mv (T 8)) 52 true, sg 55 (.bin .eql (T 53) (T 54)) 52 true, so 56 (.pick (T 52) (T 55) (.const (.bool false))), sm 4 56])
 .ret)
 .skip))
 (.seq (.reg [sm 57 6, so 58 (.bin .eql (T 57) (C 0)), sm 59 58, sg 60 (.mv (T 5)) 59 true, sg 61 (.b2s (T 60)) 59 true, sg 62 (.load (some 3) (T 2)) 59 true, sg 63 (.mv (T 7)) 59 true, sg 64 (.call false n_drayageref06_Wrapped [(T 62), (T 63)]) 59 true, sg 65 (.b2s (T 64)) 59 true, sg 66 (.bin .eql (T 61) (T 65)) 59 true, so 67 (.pick (T 59) (T 66) (.const (.bool false))), sm 4 67])
 .ret))))))))
theorem e_drayagelaw06_GzipPacks : slimC Tryz.prog 68 (Tryz.f4.body.getD .skip) = s_drayagelaw06_GzipPacks := by kernel_rfl
theorem r_drayagelaw06_GzipPacks : slimRes Tryz.prog Tryz.f4 = some [.tmp 4] := by kernel_rfl
def s_drayageref06_Bad : SCode :=
 (.seq (.reg [so 1 (.box (T 0)), so 2 (.mv (C 0))])
 (.seq (.seq (.reg [so 3 (.faddr 1 (T 1)), so 4 (.load none (T 3)), so 5 (.bin .lss (T 4) (C 0)), sm 6 5, sg 7 (.faddr 1 (T 1)) 6 false, sg 8 (.load none (T 7)) 6 false, sg 9 (.bin .gtr (T 8) (C 4294967295)) 6 false, so 10 (.pick (T 6) (.const (.bool true)) (T 9))])
 (.cond (T 10)
 (.seq (.reg [so 2 (.mv (C 1))])
 .ret)
 .skip))
 (.seq (.seq (.reg [so 11 (.faddr 0 (T 1)), so 12 (.load none (T 11)), so 13 (.len true (T 12)), so 14 (.bin .gtr (T 13) (C 200)), sm 15 14, sg 16 (.faddr 0 (T 1)) 15 false, sg 17 (.load none (T 16)) 15 false, sg 18 (.call true n_drayageref01_Find [(T 17), (.const (.int .u8 (0)))]) 15 false, sg 19 (.bin .geq (T 18) (C 0)) 15 false, so 20 (.pick (T 15) (.const (.bool true)) (T 19))])
 (.cond (T 20)
 (.seq (.reg [so 2 (.mv (C 10))])
 .ret)
 .skip))
 (.seq (.reg [so 2 (.mv (C 0))])
 .ret))))
theorem e_drayageref06_Bad : slimC Tryz.prog 21 (Tryz.f14.body.getD .skip) = s_drayageref06_Bad := by kernel_rfl
theorem r_drayageref06_Bad : slimRes Tryz.prog Tryz.f14 = some [.tmp 2] := by kernel_rfl
def s_drayageref06_Wrapped : SCode :=
 (.seq (.reg [so 2 (.box (T 0)), so 4 (.mv (.const (.slice none 0 0)))])
 (.seq (.reg [so 6 (.bsl none [(.const (.int .u8 (31))), (.const (.int .u8 (139))), (.const (.int .u8 (8))), (.const (.int .u8 (0)))]), sm 5 6])
 (.seq (.seq (.reg [so 7 (.faddr 0 (T 2)), so 8 (.load none (T 7)), so 9 (.bin .neq (T 8) (.const (.string ⟨#[]⟩)))])
 (.cond (T 9)
 (.reg [sm 10 5, so 11 (.iaddr none (T 10) (C 3)), sn (.store none (T 11) (.const (.int .u8 (8))))])
 .skip))
 (.seq (.reg [sm 12 5, so 13 (.faddr 1 (T 2)), so 14 (.load none (T 13)), so 15 (.ci .u64 (T 14)), so 16 (.call true n_drayageref06_le [(T 15), (C 4)]), so 17 (.app none 1 (T 12) (T 16)), sm 5 17])
 (.seq (.reg [sm 18 5, so 19 (.bslice none [(.const (.int .u8 (0))), (.const (.int .u8 (3)))]), so 20 (.app none 1 (T 18) (T 19)), sm 5 20])
 (.seq (.seq (.reg [so 21 (.faddr 0 (T 2)), so 22 (.load none (T 21)), so 23 (.bin .neq (T 22) (.const (.string ⟨#[]⟩)))])
 (.cond (T 23)
 (.seq (.reg [sm 24 5, so 25 (.faddr 0 (T 2)), so 26 (.load none (T 25)), so 27 (.apps 1 (T 24) (T 26)), sm 5 27])
 (.reg [sm 28 5, so 29 (.bslice none [(.const (.int .u8 (0)))]), so 30 (.app none 1 (T 28) (T 29)), sm 5 30]))
 .skip))
 (.seq (.reg [sm 31 5, sm 32 1, so 33 (.app none 1 (T 31) (T 32)), sm 5 33])
 (.seq (.reg [sm 34 5, so 35 (.faddr 2 (T 2)), so 36 (.load none (T 35)), so 37 (.call true n_drayageref02_Crc [(T 36)]), so 38 (.ci .u64 (T 37)), so 39 (.call true n_drayageref06_le [(T 38), (C 4)]), so 40 (.app none 1 (T 34) (T 39)), sm 5 40])
 (.seq (.reg [sm 41 5, so 42 (.faddr 2 (T 2)), so 43 (.load none (T 42)), so 44 (.len false (T 43)), so 45 (.ci .u64 (T 44)), so 46 (.call true n_drayageref06_le [(T 45), (C 4)]), so 47 (.app none 1 (T 41) (T 46)), sm 4 47])
 .ret)))))))))
theorem e_drayageref06_Wrapped : slimC Tryz.prog 48 (Tryz.f15.body.getD .skip) = s_drayageref06_Wrapped := by kernel_rfl
theorem r_drayageref06_Wrapped : slimRes Tryz.prog Tryz.f15 = some [.tmp 4] := by kernel_rfl
def s_drayageref01_Find : SCode :=
 (.seq (.reg [so 4 (.mv (C 0))])
 (.seq (.seq (.reg [so 5 (.mv (C 0))])
 (.block 0
 (.loop
 (.seq (.seq (.reg [sm 6 5, sm 7 0, so 8 (.len true (T 7)), so 9 (.bin .lss (T 6) (T 8))])
 (.cond (T 9)
 .skip
 (.exit 0)))
 (.seq (.block 1
 (.seq (.reg [sm 12 0, sm 13 5, so 14 (.idxS (T 12) (T 13)), sm 15 1, so 16 (.bin .eql (T 14) (T 15))])
 (.cond (T 16)
 (.seq (.reg [sm 17 5, sm 4 17])
 .ret)
 .skip)))
 (.reg [sm 10 5, so 11 (.bin .add (T 10) (C 1)), sm 5 11]))))))
 (.seq (.reg [so 4 (.mv (C (-1)))])
 .ret)))
theorem e_drayageref01_Find : slimC Tryz.prog 18 (Tryz.f40.body.getD .skip) = s_drayageref01_Find := by kernel_rfl
theorem r_drayageref01_Find : slimRes Tryz.prog Tryz.f40 = some [.tmp 4] := by kernel_rfl
def s_drayageref06_le : SCode :=
 (.seq (.reg [so 4 (.mv (.const (.slice none 0 0)))])
 (.seq (.reg [sm 5 0, sm 6 1, so 7 (.call true n_drayageref01_Be [(T 5), (T 6)]), so 8 (.call true n_drayageref01_Turned [(T 7)]), sm 4 8])
 .ret))
theorem e_drayageref06_le : slimC Tryz.prog 9 (Tryz.f41.body.getD .skip) = s_drayageref06_le := by kernel_rfl
theorem r_drayageref06_le : slimRes Tryz.prog Tryz.f41 = some [.tmp 4] := by kernel_rfl
end Go.Proofs.YtbcncdpaigljeaaGreatDoor.Aw
namespace Go.Proofs.YtbcncdpaigljeaaGreatDoor.Aw
open Go
set_option linter.unusedSimpArgs false
set_option linter.unusedVariables false
theorem snoc_take (b : List UInt8) (k : Nat) (h : k < b.length) : b.take (k + 1) = b.take k ++ [b.getD k 0] := by
 rw [List.take_succ_eq_append_getElem h]; simp [List.getD, List.getElem?_eq_getElem h]
theorem k0 : AV.sc (.int .u32 0) = w32 0 := rfl
theorem k1 : AV.sc (.int .u32 1) = w32 1 := rfl
theorem kP : AV.sc (.int .u32 3988292384) = w32 3988292384 := rfl
theorem shr1 {c : UInt32} : aBin .shr (w32 c) (.sc (.int .u64 1)) = (True, w32 (UInt32.ofNat (c.toNat / 2))) := w32_shr (k := .u64) (n := 1)
def crcStep (c : UInt32) : UInt32 := if c &&& 1 = 0 then UInt32.ofNat (c.toNat / 2) else UInt32.ofNat (c.toNat / 2) ^^^ 3988292384
def crcN (x : UInt32) : Nat → UInt32
 | 0 => x
 | k + 1 => crcStep (crcN x k)
def crcByte (c : UInt32) (b : UInt8) : UInt32 := crcN (c ^^^ UInt32.ofNat b.toNat) 8
def crcL (c : UInt32) (l : List UInt8) : UInt32 := l.foldl crcByte c
theorem crcL_snoc (c : UInt32) (l : List UInt8) (b : UInt8) : crcL c (l ++ [b]) = crcByte (crcL c l) b := by simp [crcL]
def crcMore (s : UInt32) (l : List UInt8) : UInt32 := ~~~(crcL (~~~s) l)
set_option maxRecDepth 100000 in
theorem digest_CrcMore_c [Tabs Tryz.prog] (s : UInt32) (nl : Bool) (l : List UInt8) (hl : l.length ≤ 1000000) : Con Tryz.prog n_digest_CrcMore [w32 s, .sl nl none (l.map u8)] (w32 (crcMore s l)) := by
 refine Con.of' mix Tryz.func113 rfl Tryz.ntmps113 e_digest_CrcMore r_digest_CrcMore (by simp) (by simp only [AV.free.freeL, free_w32, AV.free, free_u8, Bool.and_self]) rfl ?_
 unfold s_digest_CrcMore
 repeat (first | refine zS ?_ | exact zT)
 refine SWp.loop (α := Nat) (fun k => mk 35 0 [(5, w32 (crcL (~~~s) (l.take k))), (11, .sl nl none (l.map u8)), (12, int l.length), (13, int k)] [])
   (fun k => k ≤ l.length) (fun k => l.length - k) 0 (Nat.zero_le _) (le_mk rfl ?_ ?_ ?_) ?_
 · exact Nat.le_refl _
 · (first | exact yT | refine yS ?_)
   rfl
 · (first | exact yT | refine yS ?_)
 rintro k hk -
 repeat (first | refine zS ?_ | exact zT)
 refine SWp.cond rfl (fun h => ?_) (fun h => ?_)
 · simp only [decide_eq_true_eq] at h
   have hk' : k < l.length := by omega
   have hs : crcL (~~~s) (l.take (k + 1)) = crcN (crcL (~~~s) (l.take k) ^^^ UInt32.ofNat (l.getD k 0).toNat) 8 := by rw [snoc_take l k hk', crcL_snoc]; rfl
   obtain ⟨c, hc⟩ : ∃ c, c = crcL (~~~s) (l.take k) ^^^ UInt32.ofNat (l.getD k 0).toNat := ⟨_, rfl⟩
   rw [← hc] at hs
   repeat (first | refine zR hc.symm ?_ | exact zU hc.symm)
   refine SWp.loop (α := Nat) (fun j => mk 35 0 [(5, w32 (crcN c j)), (11, .sl nl none (l.map u8)), (12, int l.length), (13, int k), (21, int j)] [])
     (fun j => j ≤ 8) (fun j => 8 - j) 0 (Nat.zero_le _) (le_mk rfl ?_ ?_ ?_) ?_
   · exact Nat.le_refl _
   iterate 2 (case _ => (first | exact yU (ja3 @crcN.eq_1 @crcN.eq_2 hc.symm) | refine yR (ja3 @crcN.eq_1 @crcN.eq_2 hc.symm) ?_))
   rintro j hj -
   repeat (first | refine zS ?_ | exact zT)
   refine SWp.cond rfl (fun h => ?_) (fun h => ?_)
   · simp only [decide_eq_true_eq] at h
     by_cases c0 : crcN c j &&& 1 = 0
     · have d0 := decide_eq_true c0
       have he : crcN c (j + 1) = UInt32.ofNat ((crcN c j).toNat / 2) := by simp only [crcN, crcStep]; rw [if_pos c0]
       repeat (first | refine zR (ja5 @d0 @k0 @k1 @kP @shr1) ?_ | exact zU (ja5 @d0 @k0 @k1 @kP @shr1))
       refine At.of (j + 1) (by omega) (by omega) rfl rfl (Nat.le_refl _) ?_ ?_
       iterate 2 (case _ => (first | exact yU @he | refine yR @he ?_))
     · have d0 := decide_eq_false c0
       have he : crcN c (j + 1) = UInt32.ofNat ((crcN c j).toNat / 2) ^^^ 3988292384 := by simp only [crcN, crcStep]; rw [if_neg c0]
       repeat (first | refine zR (ja5 @d0 @k0 @k1 @kP @shr1) ?_ | exact zU (ja5 @d0 @k0 @k1 @kP @shr1))
       refine At.of (j + 1) (by omega) (by omega) rfl rfl (Nat.le_refl _) ?_ ?_
       iterate 2 (case _ => (first | exact yU @he | refine yR @he ?_))
   · simp only [decide_eq_false_iff_not] at h
     obtain rfl : j = 8 := by omega
     repeat (first | refine zS ?_ | exact zT)
     refine At.of (k + 1) (by omega) (by omega) rfl rfl (Nat.le_refl _) ?_ ?_
     iterate 2 (case _ => (first | exact yU @hs | refine yR @hs ?_))
 · simp only [decide_eq_false_iff_not] at h
   obtain rfl : k = l.length := by omega
   repeat (first | refine zR (ja2 @List.take_length.{0} @crcMore.eq_1) ?_ | exact zU (ja2 @List.take_length.{0} @crcMore.eq_1))
theorem digest_Crc_c [Tabs Tryz.prog] (nl : Bool) (l : List UInt8) (hl : l.length ≤ 1000000) : Con Tryz.prog n_digest_Crc [.sl nl none (l.map u8)] (w32 (crcMore 0 l)) := by
 refine Con.of' mix Tryz.func69 rfl Tryz.ntmps69 e_digest_Crc r_digest_Crc (by simp) (by simp only [AV.free.freeL, AV.free, free_u8, Bool.and_self]) rfl ?_
 unfold s_digest_Crc
 repeat (first | refine zR @k0 ?_ | exact zU @k0)
 refine goC_p _ (.inl ⟨by simp only [AV.free.freeL, free_w32, AV.free, free_u8, Bool.and_self], digest_CrcMore_c 0 nl l hl⟩) ?_
 repeat (first | refine zS ?_ | exact zT)
end Go.Proofs.YtbcncdpaigljeaaGreatDoor.Aw
namespace Go.Proofs.YtbcncdpaigljeaaGreatDoor.Aw
open Go
set_option linter.unusedSimpArgs false
set_option linter.unusedVariables false
theorem indexByte_none (l : List UInt8) (c : UInt8) (h : ∀ k, k < l.length → l.getD k 0 ≠ c) : Lib.indexByte l c = -1 := by
 induction l with
 | nil => rfl
 | cons b l ih =>
   have h0 := h 0 (by simp)
   simp only [List.getD_cons_zero] at h0
   have hr := ih fun k hk => by simpa using h (k + 1) (by simpa using hk)
   simp [Lib.indexByte, h0, hr]
theorem indexByte_some (l : List UInt8) (c : UInt8) (n : Nat) (hn : n < l.length) (hc : l.getD n 0 = c) (h : ∀ k, k < n → l.getD k 0 ≠ c) : Lib.indexByte l c = n := by
 induction l generalizing n with
 | nil => simp at hn
 | cons b l ih =>
   cases n with
   | zero => simp only [List.getD_cons_zero] at hc; simp [Lib.indexByte, hc]
   | succ n =>
     have h0 := h 0 (by omega)
     simp only [List.getD_cons_zero] at h0
     have hr := ih n (by simpa using hn) (by simpa using hc) fun k hk => by simpa using h (k + 1) (by omega)
     have : ((n : Int) == -1) = false := by simp
     simp [Lib.indexByte, h0, hr, this]
theorem take_snoc (b : List UInt8) (k : Nat) (h : k < b.length) : b.take (k + 1) = b.take k ++ [b.getD k 0] := by
 rw [List.take_succ_eq_append_getElem h]; simp [List.getD, List.getElem?_eq_getElem h]
theorem wrap_u64_id {x : Int} (h1 : 0 ≤ x) (h2 : x < 18446744073709551616) : IntKind.u64.wrap x = x := by
 simp only [IntKind.wrap, IntKind.bits, IntKind.signed]
 simp
 omega
end Go.Proofs.YtbcncdpaigljeaaGreatDoor.Aw
namespace Go.Proofs.YtbcncdpaigljeaaGreatDoor.Aw
open Go
set_option linter.unusedSimpArgs false
set_option linter.unusedVariables false
def leB (n : Nat) (size : Nat) : List UInt8 := (List.range size).map fun i => UInt8.ofNat (n / 2 ^ (8 * i))
def leK (n size k : Nat) : List AV := (List.range size).map fun i => .sc (.int .u8 (if i < k then ((n / 2 ^ (8 * i) % 256 : Nat) : Int) else 0))
theorem length_leK {n size k : Nat} : (leK n size k).length = size := by simp [leK]
theorem leK_zero (n size : Nat) : (List.replicate size [AV.sc (.int .u8 0)]).flatten = leK n size 0 := by
 apply List.ext_getElem
 · simp [leK]
 · intro i h1 h2
   simp [leK]
theorem leK_set (n size k : Nat) (h : k < size) : (leK n size k).take k ++ (.sc (.int .u8 ((n / 2 ^ (8 * k) % 256 : Nat) : Int)) :: (leK n size k).drop (k + 1)) = leK n size (k + 1) := by
 apply List.ext_getElem
 · simp [leK]; omega
 · intro i h1 h2
   have hi : i < size := by simpa [leK] using h2
   have e : ((leK n size k).take k).length = k := by simp [leK]; omega
   rw [List.getElem_append]
   split
   · rename_i hlt
     rw [e] at hlt
     simp [leK, hlt, show i < k + 1 by omega]
   · rename_i hge
     rw [e] at hge
     rw [List.getElem_cons]
     split
     · rename_i h0
       rw [e] at h0
       obtain rfl : i = k := by omega
       simp [leK]
     · rename_i h0
       rw [e] at h0
       have h1 : ¬ i < k := by omega
       have h2 : ¬ i < k + 1 := by omega
       have h3 : ¬ (k + 1 + (i - k - 1) < k) := by omega
       simp only [List.getElem_drop, e]
       simp [leK, h2, h3]
theorem leK_full (n size : Nat) : leK n size size = (leB n size).map u8 := by
 simp only [leK, leB, List.map_map]
 apply List.map_congr_left
 intro i hi
 rw [List.mem_range] at hi
 simp only [Function.comp, u8, if_pos hi, UInt8.toNat_ofNat']
def beR (n : Nat) (size : Int) : AV := if size < 1 ∨ 8 < size then .sc (.slice none 0 0) else .sl false none ((leB n size.toNat).reverse.map u8)
def leR (n : Nat) (size : Int) : AV := if size < 1 ∨ 8 < size then .sc (.slice none 0 0) else .sl false none ((leB n size.toNat).map u8)
theorem toNat_mul_lit {n m : Nat} : ((no_index (@OfNat.ofNat Int m instOfNat)) * (n : Int)).toNat = (@OfNat.ofNat Nat m (instOfNatNat m)) * n := rfl
theorem wrap_u8_nat {n : Nat} : IntKind.u8.wrap (n : Int) = ((n % 256 : Nat) : Int) := by rw [wrap_u8]; rfl
set_option maxRecDepth 100000 in
theorem codec_Le_c [Tabs Tryz.prog] (n : Nat) (hn : n < 18446744073709551616) (size : Int) (h1 : -9223372036854775808 ≤ size) (h2 : size ≤ 9223372036854775807) : Con Tryz.prog n_codec_Le [.sc (.int .u64 n), int size] (leR n size) := by
 refine Con.of' mix Tryz.func68 rfl Tryz.ntmps68 e_codec_Le r_codec_Le (by simp) (by simp [AV.free, AV.free.freeL, int]) (by unfold leR; split <;> simp [AV.free, free_u8]) ?_
 unfold s_codec_Le
 by_cases c1 : size < 1
 · have d1 : decide (size < 1) = true := decide_eq_true c1
   have hu : leR n size = .sc (.slice none 0 0) := if_pos (.inl c1)
   repeat (first | refine zR (ja2 @d1 @hu) ?_ | exact zU (ja2 @d1 @hu))
 · have d1 : decide (size < 1) = false := decide_eq_false c1
   by_cases c2 : 8 < size
   · have d2 : decide (8 < size) = true := decide_eq_true c2
     have hu : leR n size = .sc (.slice none 0 0) := if_pos (.inr c2)
     repeat (first | refine zR (ja3 @d1 @d2 @hu) ?_ | exact zU (ja3 @d1 @d2 @hu))
   · have d2 : decide (8 < size) = false := decide_eq_false c2
     have hu : leR n size = .sl false none ((leB n size.toNat).map u8) := if_neg (by omega)
     obtain ⟨m, rfl⟩ : ∃ m : Nat, size = m := ⟨size.toNat, by omega⟩
     repeat (first | refine wA ?_ | refine wB ?_ | refine wC rfl ?_ | refine wD rfl ?_ | refine wE ?_ | refine wF (by omega) ?_ | ((first | refine wG ?_ | refine wH ?_ | refine wI ?_ | refine wJ ?_ | refine wK ?_ | refine wL ?_); simp (disch := omega) only [wP, wZ, so, sm, sg, sn, undef, seval, if_pos, if_neg, aStore, frz, AV.flat, ↓reduceIte, ne_eq, reduceCtorEq, ByteArray.size, d1, d2, leK_zero n]))
     refine SWp.loop (α := Nat) (fun k => mk 29 1 [(0, .sc (.int .u64 n)), (5, .own 14 0 none 0 m), (15, int m), (16, int k)] [(14, 0, .row false (leK n m k))])
       (fun k => k ≤ m) (fun k => m - k) 0 (Nat.zero_le _) (le_mk rfl ?_ ?_ ?_) ?_
     · exact Nat.le_refl _
     iterate 2 (case _ => (first | exact yT | refine yS ?_))
     · rintro k hk -
       refine SWp.seq (SWp.reg ?_)
       (first | exact yT | refine yS ?_)
       refine SWp.seq (SWp.cond rfl (fun h => ?_) (fun h => ?_))
       · simp only [decide_eq_true_eq] at h
         have hk' : k < m := by omega
         repeat (first | refine wA ?_ | refine wB ?_ | refine wC rfl ?_ | refine wD rfl ?_ | refine wE ?_ | refine wF (by omega) ?_ | ((first | refine wG ?_ | refine wH ?_ | refine wI ?_ | refine wJ ?_ | refine wK ?_ | refine wL ?_); simp (disch := omega) only [wP, wZ, so, sm, sg, sn, undef, seval, if_pos, if_neg, aStore, frz, AV.flat, ↓reduceIte, ne_eq, reduceCtorEq, ByteArray.size, length_leK, toNat_mul_lit, wrap_u8_nat, leK_set n m k hk']))
         refine At.of (k + 1) (by omega) (by omega) rfl rfl (Nat.le_refl _) ?_ ?_
         iterate 2 (case _ => (first | exact yT | refine yS ?_))
       · simp only [decide_eq_false_iff_not] at h
         obtain rfl : k = m := by omega
         have hlb : (leB n k).length = k := by simp [leB]
         repeat (first | refine zR (ja5 @hu @leK_full @length_leK @hlb @List.take_of_length_le.{0}) ?_ | exact zU (ja5 @hu @leK_full @length_leK @hlb @List.take_of_length_le.{0}))
end Go.Proofs.YtbcncdpaigljeaaGreatDoor.Aw
namespace Go.Proofs.YtbcncdpaigljeaaGreatDoor.Aw
open Go
set_option linter.unusedSimpArgs false
set_option linter.unusedVariables false
def stB (len : Nat) (at_ size : Int) : Bool := decide (1 ≤ size ∧ size ≤ 8 ∧ 0 ≤ at_ ∧ at_ ≤ len - size)
set_option maxRecDepth 100000 in
theorem codec_stands_c [Tabs Tryz.prog] (nl : Bool) (b : List UInt8) (hb : b.length ≤ 1000000) (at_ size : Int) : Con Tryz.prog n_codec_stands [.sl nl none (b.map u8), int at_, int size] (boo (stB b.length at_ size)) := by
 refine Con.of' mix Tryz.func143 rfl Tryz.ntmps143 e_codec_stands r_codec_stands (by simp) (by simp only [AV.free, AV.free.freeL, free_u8, int, Bool.and_self]) rfl ?_
 unfold s_codec_stands
 by_cases c1 : size < 1
 · have d1 := decide_eq_true c1
   have hu : stB b.length at_ size = false := decide_eq_false (by omega)
   repeat (first | refine zR (ja2 @d1 @hu) ?_ | exact zU (ja2 @d1 @hu))
 · have d1 := decide_eq_false c1
   by_cases c2 : 8 < size
   · have d2 := decide_eq_true c2
     have hu : stB b.length at_ size = false := decide_eq_false (by omega)
     repeat (first | refine zR (ja3 @d1 @d2 @hu) ?_ | exact zU (ja3 @d1 @d2 @hu))
   · have d2 := decide_eq_false c2
     by_cases c3 : at_ < 0
     · have d3 := decide_eq_true c3
       have hu : stB b.length at_ size = false := decide_eq_false (by omega)
       repeat (first | refine zR (ja4 @d1 @d2 @d3 @hu) ?_ | exact zU (ja4 @d1 @d2 @d3 @hu))
     · have d3 := decide_eq_false c3
       have hu : stB b.length at_ size = decide (at_ ≤ (b.length : Int) - size) := by
         unfold stB
         by_cases h : at_ ≤ (b.length : Int) - size
         · rw [decide_eq_true h]; exact decide_eq_true (by omega)
         · rw [decide_eq_false h]; exact decide_eq_false (by omega)
       repeat (first | refine zR (ja4 @d1 @d2 @d3 @hu) ?_ | exact zU (ja4 @d1 @d2 @d3 @hu))
def beN (l : List UInt8) : Nat := l.foldl (fun n c => n * 256 + c.toNat) 0
def leN (l : List UInt8) : Nat := beN l.reverse
theorem beN_fold (l : List UInt8) (n : Nat) : l.foldl (fun n c => n * 256 + c.toNat) n = n * 256 ^ l.length + beN l := by
 induction l generalizing n with
 | nil => simp [beN]
 | cons c l ih =>
   simp only [beN, List.foldl_cons, List.length_cons]
   rw [ih, ih (0 * 256 + c.toNat), Nat.pow_succ, Nat.add_mul]
   have : n * 256 * 256 ^ l.length = n * (256 ^ l.length * 256) := by rw [Nat.mul_assoc, Nat.mul_comm 256]
   rw [this, show 0 * 256 + c.toNat = c.toNat by omega]; omega
theorem beN_cons (l : List UInt8) (c : UInt8) : beN (c :: l) = c.toNat * 256 ^ l.length + beN l := by
 have := beN_fold l c.toNat
 simp only [beN, List.foldl_cons, Nat.zero_mul, Nat.zero_add]
 exact this
theorem leN_snoc (l : List UInt8) (c : UInt8) : leN (l ++ [c]) = leN l + c.toNat * 256 ^ l.length := by
 unfold leN
 rw [List.reverse_append]
 simp only [List.reverse_cons, List.reverse_nil, List.nil_append, List.cons_append]
 rw [beN_cons, List.length_reverse, Nat.add_comm]
theorem beN_lt (l : List UInt8) : beN l < 256 ^ l.length := by
 induction l with
 | nil => simp [beN]
 | cons c l ih =>
   rw [beN_cons, List.length_cons, Nat.pow_succ]
   have : c.toNat < 256 := c.toNat_lt
   have h : c.toNat * 256 ^ l.length ≤ 255 * 256 ^ l.length := Nat.mul_le_mul_right _ (by omega)
   omega
theorem pow_le8 (k : Nat) (h : k < 8) : 256 ^ k ≤ 72057594037927936 := by
 have : 256 ^ k ≤ 256 ^ 7 := Nat.pow_le_pow_right (by omega) (by omega)
 omega
def getLeR (b : List UInt8) (at_ size : Int) : AV := if stB b.length at_ size = true then .tup [.sc (.int .u64 (leN ((b.drop at_.toNat).take size.toNat))), boo true] else .tup [.sc (.int .u64 0), boo false]
theorem drop_get (b : List UInt8) (a m k : Nat) (h : k < m) (h' : a + m ≤ b.length) : b.getD (a + k) 0 = ((b.drop a).take m).getD k 0 := by
 simp only [List.getD, List.getElem?_take, if_pos h, List.getElem?_drop]
set_option maxRecDepth 100000 in
theorem codec_GetLe_c [Tabs Tryz.prog] (nl : Bool) (b : List UInt8) (hb : b.length ≤ 1000000) (at_ size : Int) : Con Tryz.prog n_codec_GetLe [.sl nl none (b.map u8), int at_, int size] (getLeR b at_ size) := by
 refine Con.of' mix Tryz.func115 rfl Tryz.ntmps115 e_codec_GetLe r_codec_GetLe (by simp) (by simp only [AV.free, AV.free.freeL, free_u8, int, Bool.and_self]) (by unfold getLeR; split <;> rfl) ?_
 unfold s_codec_GetLe
 repeat (first | refine zS ?_ | exact zT)
 refine goC_p _ (.inl ⟨by simp only [AV.free, AV.free.freeL, free_u8, Bool.and_self], codec_stands_c nl b hb at_ size⟩) ?_
 cases hst : stB b.length at_ size with
 | false =>
   have hr : getLeR b at_ size = .tup [.sc (.int .u64 0), boo false] := by unfold getLeR; rw [hst]; rfl
   repeat (first | refine zR @hr ?_ | exact zU @hr)
 | true =>
   have hst' := of_decide_eq_true hst
   obtain ⟨a, rfl⟩ : ∃ a : Nat, at_ = a := ⟨at_.toNat, by omega⟩
   obtain ⟨m, rfl⟩ : ∃ m : Nat, size = m := ⟨size.toNat, by omega⟩
   obtain ⟨w, hw⟩ : ∃ w, w = (b.drop a).take m := ⟨_, rfl⟩
   have hwl : w.length = m := by rw [hw]; simp; omega
   have hr : getLeR b a m = .tup [.sc (.int .u64 (leN w)), boo true] := by unfold getLeR; rw [hst, hw]; rfl
   repeat (first | refine zS ?_ | exact zT)
   refine SWp.loop (α := Nat) (fun k => mk 33 0 [(0, .sl nl none (b.map u8)), (1, int a), (8, .sc (.int .u64 (leN (w.take k)))), (15, int m), (16, int k)] [])
     (fun k => k ≤ m) (fun k => m - k) 0 (Nat.zero_le _) (le_mk rfl ?_ ?_ ?_) ?_
   · exact Nat.le_refl _
   · (first | exact yT | refine yS ?_)
     rfl
   · (first | exact yT | refine yS ?_)
   · rintro k hk -
     repeat (first | refine zS ?_ | exact zT)
     refine SWp.cond rfl (fun h => ?_) (fun h => ?_)
     · simp only [decide_eq_true_eq] at h
       have hkm : k < m := by omega
       have hg : b.getD (a + k) 0 = w.getD k 0 := by rw [hw]; exact drop_get b a m k hkm (by omega)
       have hlt : leN (w.take k) < 256 ^ k := by
         have := beN_lt (w.take k).reverse
         rwa [List.length_reverse, List.length_take, hwl, Nat.min_eq_left (by omega)] at this
       have hp := pow_le8 k (by omega)
       have hc : (w.getD k 0).toNat < 256 := (w.getD k 0).toNat_lt
       have e256 : 2 ^ (8 * k) = 256 ^ k := by rw [Nat.pow_mul]
       have hsh : (w.getD k 0).toNat * 256 ^ k < 18446744073709551616 := by
         have : (w.getD k 0).toNat * 256 ^ k ≤ 255 * 72057594037927936 := Nat.mul_le_mul (by omega) hp
         omega
       have hor : leN (w.take k) ||| (w.getD k 0).toNat * 256 ^ k = leN (w.take (k + 1)) := by
         rw [take_snoc w k (by omega), leN_snoc, List.length_take, hwl, Nat.min_eq_left (by omega), Nat.or_comm, ← e256, mul_or (by rw [e256]; exact hlt), Nat.add_comm]
       have hlt' : leN (w.take (k + 1)) < 18446744073709551616 := by
         have := beN_lt (w.take (k + 1)).reverse
         rw [List.length_reverse, List.length_take, hwl, Nat.min_eq_left (by omega), Nat.pow_succ] at this
         have : leN (w.take (k + 1)) < 256 ^ k * 256 := this
         omega
       repeat (first | refine zR (ja5 @hg @wrap_u64_id @toNat_mul_lit @e256 @hor) ?_ | exact zU (ja5 @hg @wrap_u64_id @toNat_mul_lit @e256 @hor))
       refine At.of (k + 1) (by omega) (by omega) rfl rfl (Nat.le_refl _) ?_ ?_
       iterate 2 (case _ => (first | exact yT | refine yS ?_))
     · simp only [decide_eq_false_iff_not] at h
       obtain rfl : k = m := by omega
       have hwt : w.take k = w := List.take_of_length_le (by omega)
       repeat (first | refine zR (ja2 @hwt @hr) ?_ | exact zU (ja2 @hwt @hr))
end Go.Proofs.YtbcncdpaigljeaaGreatDoor.Aw
