/- Parts of the proof of GzipTells. -/
import Derived.Test.YtbcncdpaigljeaaGreatDoorQGzipTellsBA
import Derived.Test.YtbcncdpaigljeaaGreatDoorProg
import Derived.Lib.Bytealg
namespace Go.Proofs.YtbcncdpaigljeaaGreatDoor.Aw
open Go
set_option maxRecDepth 100000
set_option linter.unusedSimpArgs false
abbrev n_bits_Mul : Nat := 126
abbrev n_bits_Mul32 : Nat := 147
abbrev n_bits_Mul64 : Nat := 148
abbrev n_bytes_Clone : Nat := 54
abbrev n_bytes_IndexByte : Nat := 144
abbrev n_codec_GetLe : Nat := 115
abbrev n_codec_Le : Nat := 68
abbrev n_codec_stands : Nat := 143
abbrev n_deflate_Deflate : Nat := 9
abbrev n_deflate_packer_begin : Nat := 46
abbrev n_deflate_packer_dynamic : Nat := 23
abbrev n_deflate_packer_fixed : Nat := 21
abbrev n_deflate_packer_stored : Nat := 20
abbrev n_deflate_packer_storedBlock : Nat := 45
abbrev n_deflate_piecesOf : Nat := 22
abbrev n_digest_Crc : Nat := 69
abbrev n_digest_CrcMore : Nat := 113
abbrev n_drayagelaw06_GzipTells : Nat := 7
abbrev n_drayagelaw06_awake : Nat := 12
abbrev n_gzip_Pack : Nat := 13
abbrev n_gzip_Unpack : Nat := 16
abbrev n_gzip_head : Nat := 39
abbrev n_gzip_reader_data : Nat := 75
abbrev n_gzip_reader_extra : Nat := 116
abbrev n_gzip_reader_head : Nat := 73
abbrev n_gzip_reader_headSum : Nat := 119
abbrev n_gzip_reader_member : Nat := 43
abbrev n_gzip_reader_name : Nat := 117
abbrev n_gzip_reader_tail : Nat := 76
abbrev n_gzip_reader_take : Nat := 114
abbrev n_gzip_reader_text : Nat := 118
abbrev n_gzip_reader_told : Nat := 74
abbrev n_gzip_tail : Nat := 37
abbrev n_huff_Check : Nat := 132
abbrev n_huff_Full : Nat := 138
abbrev n_huff_NewReader : Nat := 25
abbrev n_huff_NewTree : Nat := 101
abbrev n_huff_NewWriter : Nat := 19
abbrev n_huff_Reader_Align : Nat := 98
abbrev n_huff_Reader_At : Nat := 27
abbrev n_huff_Reader_Bytes : Nat := 99
abbrev n_huff_Reader_Take : Nat := 55
abbrev n_huff_Reader_bit : Nat := 97
abbrev n_huff_Reader_left : Nat := 96
abbrev n_huff_Tree_Next : Nat := 102
abbrev n_huff_Tree_begins : Nat := 135
abbrev n_huff_Writer_Align : Nat := 79
abbrev n_huff_Writer_Bytes : Nat := 24
abbrev n_huff_Writer_Put : Nat := 80
abbrev n_huff_Writer_Raw : Nat := 81
abbrev n_huff_Writer_bit : Nat := 121
abbrev n_huff_firstRows : Nat := 133
abbrev n_huff_taken : Nat := 134
abbrev n_inflate_Inflate : Nat := 10
abbrev n_inflate_codesOf : Nat := 107
abbrev n_inflate_fewOrFull : Nat := 140
abbrev n_inflate_fixedCodes : Nat := 57
abbrev n_inflate_unpacker_block : Nat := 26
abbrev n_inflate_unpacker_distance : Nat := 137
abbrev n_inflate_unpacker_length : Nat := 136
abbrev n_inflate_unpacker_lengths : Nat := 106
abbrev n_inflate_unpacker_literal : Nat := 103
abbrev n_inflate_unpacker_plus : Nat := 139
abbrev n_inflate_unpacker_room : Nat := 100
abbrev n_inflate_unpacker_run : Nat := 104
abbrev n_inflate_unpacker_stored : Nat := 56
abbrev n_inflate_unpacker_symbols : Nat := 58
abbrev n_inflate_unpacker_teller : Nat := 105
abbrev n_inflate_unpacker_toldCodes : Nat := 59
abbrev n_slices_Concatbytebyte : Nat := 38
abbrev n_slices_Concatintint : Nat := 87
abbrev n_slices_Growbytebyte : Nat := 70
abbrev n_slices_Growintint : Nat := 125
abbrev n_slices_Repeatintint : Nat := 88
abbrev n_strings_IndexByte : Nat := 36
abbrev n_stringslite_IndexByte : Nat := 67
theorem mix : Tryz.prog.follows .mixedOrders = true := by kernel_rfl
def s_drayagelaw06_GzipTells : SCode :=
 (.seq (.reg [⟨(some 6), .mv (.const (.bool false)), none⟩])
 (.seq (.seq (.reg [⟨(some 11), .call true n_drayagelaw06_awake [], none⟩,
 ⟨(some 12), .un .not (T 11), none⟩])
 (.cond (T 12)
 (.seq (.reg [⟨(some 6), .mv (.const (.bool false)), none⟩])
 .ret)
 .skip))
 (.seq (.seq (.reg [⟨(some 13), .mv (T 0), none⟩,
 ⟨(some 14), .len false (T 13), none⟩,
 ⟨(some 15), .bin .gtr (T 14) (C (1000)), none⟩,
 ⟨(some 16), .mv (T 15), none⟩,
 ⟨(some 17), .mv (T 2), (some (16, false))⟩,
 ⟨(some 18), .bin .lss (T 17) (C (0)), (some (16, false))⟩,
 ⟨(some 19), .pick (T 16) (.const (.bool true)) (T 18), none⟩,
 ⟨(some 20), .mv (T 19), none⟩,
 ⟨(some 21), .mv (T 2), (some (20, false))⟩,
 ⟨(some 22), .bin .gtr (T 21) (C (7)), (some (20, false))⟩,
 ⟨(some 23), .pick (T 20) (.const (.bool true)) (T 22), none⟩,
 ⟨(some 24), .mv (T 23), none⟩,
 ⟨(some 25), .mv (T 1), (some (24, false))⟩,
 ⟨(some 26), .bin .lss (T 25) (C (0)), (some (24, false))⟩,
 ⟨(some 27), .pick (T 24) (.const (.bool true)) (T 26), none⟩,
 ⟨(some 28), .mv (T 27), none⟩,
 ⟨(some 29), .mv (T 1), (some (28, false))⟩,
 ⟨(some 30), .mv (T 0), (some (28, false))⟩,
 ⟨(some 31), .len false (T 30), (some (28, false))⟩,
 ⟨(some 32), .bin .add (T 31) (C (8)), (some (28, false))⟩,
 ⟨(some 33), .bin .geq (T 29) (T 32), (some (28, false))⟩,
 ⟨(some 34), .pick (T 28) (.const (.bool true)) (T 33), none⟩])
 (.cond (T 34)
 (.seq (.reg [⟨(some 6), .mv (.const (.bool true)), none⟩])
 .ret)
 .skip))
 (.seq (.reg [⟨(some 36), .mv (T 0), none⟩,
 ⟨(some 37), .build [(.string ⟨#[]⟩), (.int .i64 (0)), (.slice none 0 0)] [(2, 1, (T 36))], none⟩,
 ⟨(some 38), .call true n_gzip_Pack [(T 37), (C (0))], none⟩,
 ⟨(some 35), .mv (T 38), none⟩,
 ⟨(some 39), .ext (T 35) 0, none⟩,
 ⟨(some 40), .ext (T 35) 1, none⟩,
 ⟨(some 7), .mv (T 39), none⟩,
 ⟨(some 8), .mv (T 40), none⟩])
 (.seq (.seq (.reg [⟨(some 41), .mv (T 8), none⟩,
 ⟨(some 42), .bin .neq (T 41) (C (0)), none⟩,
 ⟨(some 43), .mv (T 42), none⟩,
 ⟨(some 44), .mv (T 7), (some (43, false))⟩,
 ⟨(some 45), .len false (T 44), (some (43, false))⟩,
 ⟨(some 46), .mv (T 0), (some (43, false))⟩,
 ⟨(some 47), .len false (T 46), (some (43, false))⟩,
 ⟨(some 48), .bin .add (C (15)) (T 47), (some (43, false))⟩,
 ⟨(some 49), .bin .add (T 48) (C (8)), (some (43, false))⟩,
 ⟨(some 50), .bin .neq (T 45) (T 49), (some (43, false))⟩,
 ⟨(some 51), .pick (T 43) (.const (.bool true)) (T 50), none⟩])
 (.cond (T 51)
 (.seq (.reg [⟨(some 6), .mv (.const (.bool false)), none⟩])
 .ret)
 .skip))
 (.seq (.reg [⟨(some 52), .mv (T 7), none⟩,
 ⟨(some 53), .mv (T 1), none⟩,
 ⟨(some 54), .bin .add (C (15)) (T 53), none⟩,
 ⟨(some 55), .mv (T 7), none⟩,
 ⟨(some 56), .mv (T 1), none⟩,
 ⟨(some 57), .bin .add (C (15)) (T 56), none⟩,
 ⟨(some 58), .iaddr none (T 55) (T 57), none⟩,
 ⟨(some 59), .load none (T 58), none⟩,
 ⟨(some 60), .mv (T 2), none⟩,
 ⟨(some 61), .ci .u64 (T 60), none⟩,
 ⟨(some 62), .bin .shl (.const (.int .u8 (1))) (T 61), none⟩,
 ⟨(some 63), .bin .xor (T 59) (T 62), none⟩,
 ⟨(some 64), .iaddr none (T 52) (T 54), none⟩,
 ⟨none, .store none (T 64) (T 63), none⟩])
 (.seq (.reg [⟨(some 66), .mv (T 7), none⟩,
 ⟨(some 67), .call true n_gzip_Unpack [(T 66), (C (2000))], none⟩,
 ⟨(some 65), .mv (T 67), none⟩,
 ⟨(some 68), .ext (T 65) 0, none⟩,
 ⟨(some 69), .ext (T 65) 1, none⟩,
 ⟨(some 10), .alloc [(.string ⟨#[]⟩), (.int .i64 (0)), (.int .i64 (0))], none⟩,
 ⟨(some 9), .mv (T 68), none⟩,
 ⟨none, .store (some 3) (T 10) (T 69), none⟩])
 (.seq (.reg [⟨(some 70), .mv (T 9), none⟩,
 ⟨(some 71), .len false (T 70), none⟩,
 ⟨(some 72), .bin .eql (T 71) (C (0)), none⟩,
 ⟨(some 73), .mv (T 72), none⟩,
 ⟨(some 74), .load (some 3) (T 10), (some (73, true))⟩,
 ⟨(some 75), .build [(.string ⟨#[]⟩), (.int .i64 (0)), (.int .i64 (0))] [(2, 1, (C (5)))], (some (73, true))⟩,
 ⟨(some 76), .aeq false (.agg #[(.string ⟨#[]⟩), (.int .i64 (0)), (.int .i64 (0))]) (T 74) (T 75), (some (73, true))⟩,
 ⟨(some 77), .pick (T 73) (T 76) (.const (.bool false)), none⟩,
 ⟨(some 6), .mv (T 77), none⟩])
 .ret))))))))
theorem e_drayagelaw06_GzipTells : slimC Tryz.prog 78 (Tryz.f7.body.getD .skip) = s_drayagelaw06_GzipTells := by kernel_rfl
theorem r_drayagelaw06_GzipTells : slimRes Tryz.prog Tryz.f7 = some [.tmp 6] := by kernel_rfl
def s_drayagelaw06_awake : SCode :=
 (.seq (.reg [⟨(some 0), .mv (.const (.bool false)), none⟩])
 (.seq (.reg [⟨(some 6), .bsl none [(.const (.int .u8 (97)))], none⟩,
 ⟨(some 7), .strz (T 6), none⟩,
 ⟨(some 8), .build [(.string ⟨#[]⟩), (.int .i64 (0)), (.slice none 0 0)] [(0, 1, (.const (.string ⟨#[110]⟩))), (1, 1, (C (1))), (2, 1, (T 7))], none⟩,
 ⟨(some 9), .call true n_gzip_Pack [(T 8), (C (0))], none⟩,
 ⟨(some 5), .mv (T 9), none⟩,
 ⟨(some 10), .ext (T 5) 0, none⟩,
 ⟨(some 11), .ext (T 5) 1, none⟩,
 ⟨(some 1), .mv (T 10), none⟩,
 ⟨(some 2), .mv (T 11), none⟩])
 (.seq (.reg [⟨(some 13), .mv (T 1), none⟩,
 ⟨(some 14), .call true n_gzip_Unpack [(T 13), (C (10))], none⟩,
 ⟨(some 12), .mv (T 14), none⟩,
 ⟨(some 15), .ext (T 12) 0, none⟩,
 ⟨(some 16), .ext (T 12) 1, none⟩,
 ⟨(some 4), .alloc [(.string ⟨#[]⟩), (.int .i64 (0)), (.int .i64 (0))], none⟩,
 ⟨(some 3), .mv (T 15), none⟩,
 ⟨none, .store (some 3) (T 4) (T 16), none⟩])
 (.seq (.reg [⟨(some 17), .mv (T 2), none⟩,
 ⟨(some 18), .bin .eql (T 17) (C (0)), none⟩,
 ⟨(some 19), .mv (T 18), none⟩,
 ⟨(some 20), .load (some 3) (T 4), (some (19, true))⟩,
 ⟨(some 21), .build [(.string ⟨#[]⟩), (.int .i64 (0)), (.int .i64 (0))] [], (some (19, true))⟩,
 ⟨(some 22), .aeq false (.agg #[(.string ⟨#[]⟩), (.int .i64 (0)), (.int .i64 (0))]) (T 20) (T 21), (some (19, true))⟩,
 ⟨(some 23), .pick (T 19) (T 22) (.const (.bool false)), none⟩,
 ⟨(some 24), .mv (T 23), none⟩,
 ⟨(some 25), .mv (T 1), (some (24, true))⟩,
 ⟨(some 26), .len false (T 25), (some (24, true))⟩,
 ⟨(some 27), .bin .eql (T 26) (C (26)), (some (24, true))⟩,
 ⟨(some 28), .pick (T 24) (T 27) (.const (.bool false)), none⟩,
 ⟨(some 29), .mv (T 28), none⟩,
 ⟨(some 30), .mv (T 1), (some (29, true))⟩,
 ⟨(some 31), .sl none (T 30) none (some (C (12))), (some (29, true))⟩,
 ⟨(some 32), .b2s (T 31), (some (29, true))⟩,
 ⟨(some 33), .bin .eql (T 32) (.const (.string ⟨#[31, 139, 8, 8, 1, 0, 0, 0, 0, 3, 110, 0]⟩)), (some (29, true))⟩,
 ⟨(some 34), .pick (T 29) (T 33) (.const (.bool false)), none⟩,
 ⟨(some 35), .mv (T 34), none⟩,
 ⟨(some 36), .mv (T 3), (some (35, true))⟩,
 ⟨(some 37), .len false (T 36), (some (35, true))⟩,
 ⟨(some 38), .bin .eql (T 37) (C (1)), (some (35, true))⟩,
 ⟨(some 39), .pick (T 35) (T 38) (.const (.bool false)), none⟩,
 ⟨(some 40), .mv (T 39), none⟩,
 ⟨(some 41), .mv (T 3), (some (40, true))⟩,
 ⟨(some 42), .iaddr (some 3) (T 41) (C (0)), (some (40, true))⟩,
 ⟨(some 43), .faddr 0 (T 42), (some (40, true))⟩,
 ⟨(some 44), .load none (T 43), (some (40, true))⟩,
 ⟨(some 45), .bin .eql (T 44) (.const (.string ⟨#[110]⟩)), (some (40, true))⟩,
 ⟨(some 46), .pick (T 40) (T 45) (.const (.bool false)), none⟩,
 ⟨(some 47), .mv (T 46), none⟩,
 ⟨(some 48), .mv (T 3), (some (47, true))⟩,
 ⟨(some 49), .iaddr (some 3) (T 48) (C (0)), (some (47, true))⟩,
 ⟨(some 50), .faddr 2 (T 49), (some (47, true))⟩,
 ⟨(some 51), .load none (T 50), (some (47, true))⟩,
 ⟨(some 52), .b2s (T 51), (some (47, true))⟩,
 ⟨(some 53), .bin .eql (T 52) (.const (.string ⟨#[97]⟩)), (some (47, true))⟩,
 ⟨(some 54), .pick (T 47) (T 53) (.const (.bool false)), none⟩,
 ⟨(some 0), .mv (T 54), none⟩])
 .ret))))
theorem e_drayagelaw06_awake : slimC Tryz.prog 55 (Tryz.f12.body.getD .skip) = s_drayagelaw06_awake := by kernel_rfl
theorem r_drayagelaw06_awake : slimRes Tryz.prog Tryz.f12 = some [.tmp 0] := by kernel_rfl
def s_gzip_Pack : SCode :=
 (.seq (.reg [⟨(some 2), .box (T 0), none⟩,
 ⟨(some 4), .mv (.const (.slice none 0 0)), none⟩,
 ⟨(some 5), .mv (C (0)), none⟩])
 (.seq (.seq (.reg [⟨(some 9), .faddr 1 (T 2), none⟩,
 ⟨(some 10), .load none (T 9), none⟩,
 ⟨(some 11), .bin .lss (T 10) (C (0)), none⟩,
 ⟨(some 12), .mv (T 11), none⟩,
 ⟨(some 13), .faddr 1 (T 2), (some (12, false))⟩,
 ⟨(some 14), .load none (T 13), (some (12, false))⟩,
 ⟨(some 15), .bin .gtr (T 14) (C (4294967295)), (some (12, false))⟩,
 ⟨(some 16), .pick (T 12) (.const (.bool true)) (T 15), none⟩])
 (.cond (T 16)
 (.seq (.reg [⟨(some 4), .mv (.const (.slice none 0 0)), none⟩,
 ⟨(some 5), .mv (C (1)), none⟩])
 .ret)
 .skip))
 (.seq (.seq (.reg [⟨(some 17), .faddr 0 (T 2), none⟩,
 ⟨(some 18), .load none (T 17), none⟩,
 ⟨(some 19), .len true (T 18), none⟩,
 ⟨(some 20), .bin .gtr (T 19) (C (200)), none⟩,
 ⟨(some 21), .mv (T 20), none⟩,
 ⟨(some 22), .faddr 0 (T 2), (some (21, false))⟩,
 ⟨(some 23), .load none (T 22), (some (21, false))⟩,
 ⟨(some 24), .call true n_strings_IndexByte [(T 23), (.const (.int .u8 (0)))], (some (21, false))⟩,
 ⟨(some 25), .bin .geq (T 24) (C (0)), (some (21, false))⟩,
 ⟨(some 26), .pick (T 21) (.const (.bool true)) (T 25), none⟩])
 (.cond (T 26)
 (.seq (.reg [⟨(some 4), .mv (.const (.slice none 0 0)), none⟩,
 ⟨(some 5), .mv (C (10)), none⟩])
 .ret)
 .skip))
 (.seq (.reg [⟨(some 28), .faddr 2 (T 2), none⟩,
 ⟨(some 29), .load none (T 28), none⟩,
 ⟨(some 30), .mv (T 1), none⟩,
 ⟨(some 31), .call true n_deflate_Deflate [(T 29), (T 30)], none⟩,
 ⟨(some 27), .mv (T 31), none⟩,
 ⟨(some 32), .ext (T 27) 0, none⟩,
 ⟨(some 33), .ext (T 27) 1, none⟩,
 ⟨(some 6), .mv (T 32), none⟩,
 ⟨(some 7), .mv (T 33), none⟩])
 (.seq (.seq (.reg [⟨(some 34), .mv (T 7), none⟩,
 ⟨(some 35), .bin .neq (T 34) (C (0)), none⟩])
 (.cond (T 35)
 (.seq (.reg [⟨(some 36), .mv (T 7), none⟩,
 ⟨(some 4), .mv (.const (.slice none 0 0)), none⟩,
 ⟨(some 5), .mv (T 36), none⟩])
 .ret)
 .skip))
 (.seq (.reg [⟨(some 37), .faddr 2 (T 2), none⟩,
 ⟨(some 38), .load none (T 37), none⟩,
 ⟨(some 39), .call true n_gzip_tail [(T 38)], none⟩,
 ⟨(some 8), .alloc (List.replicate 8 (.int .u8 (0))), none⟩,
 ⟨none, .store (some 8) (T 8) (T 39), none⟩])
 (.seq (.reg [⟨(some 40), .load (some 3) (T 2), none⟩,
 ⟨(some 41), .call false n_gzip_head [(T 40)], none⟩,
 ⟨(some 42), .mv (T 6), none⟩,
 ⟨(some 43), .sla 8 none (T 8) none none, none⟩,
 ⟨(some 44), .bslice none [(T 41), (T 42), (T 43)], none⟩,
 ⟨(some 45), .call true n_slices_Concatbytebyte [(T 44)], none⟩,
 ⟨(some 4), .mv (T 45), none⟩,
 ⟨(some 5), .mv (C (0)), none⟩])
 .ret)))))))
theorem e_gzip_Pack : slimC Tryz.prog 46 (Tryz.f13.body.getD .skip) = s_gzip_Pack := by kernel_rfl
theorem r_gzip_Pack : slimRes Tryz.prog Tryz.f13 = some [.tmp 4, .tmp 5] := by kernel_rfl
def s_gzip_head : SCode :=
 (.seq (.reg [⟨(some 1), .box (T 0), none⟩,
 ⟨(some 2), .mv (.const (.slice none 0 0)), none⟩])
 (.seq (.reg [⟨(some 3), .mv (.const (.int .u8 (0))), none⟩])
 (.seq (.seq (.reg [⟨(some 5), .faddr 0 (T 1), none⟩,
 ⟨(some 6), .load none (T 5), none⟩,
 ⟨(some 7), .bin .neq (T 6) (.const (.string ⟨#[]⟩)), none⟩])
 (.cond (T 7)
 (.reg [⟨(some 3), .mv (.const (.int .u8 (8))), none⟩])
 .skip))
 (.seq (.reg [⟨(some 8), .mv (T 3), none⟩,
 ⟨(some 9), .bsl none [(.const (.int .u8 (31))), (.const (.int .u8 (139))), (.const (.int .u8 (8))), (T 8)], none⟩,
 ⟨(some 4), .mv (T 9), none⟩])
 (.seq (.reg [⟨(some 10), .mv (T 4), none⟩,
 ⟨(some 11), .faddr 1 (T 1), none⟩,
 ⟨(some 12), .load none (T 11), none⟩,
 ⟨(some 13), .ci .u64 (T 12), none⟩,
 ⟨(some 14), .call true n_codec_Le [(T 13), (C (4))], none⟩,
 ⟨(some 15), .app none 1 (T 10) (T 14), none⟩,
 ⟨(some 4), .mv (T 15), none⟩])
 (.seq (.reg [⟨(some 16), .mv (T 4), none⟩,
 ⟨(some 17), .bslice none [(.const (.int .u8 (0))), (.const (.int .u8 (3)))], none⟩,
 ⟨(some 18), .app none 1 (T 16) (T 17), none⟩,
 ⟨(some 4), .mv (T 18), none⟩])
 (.seq (.seq (.reg [⟨(some 19), .faddr 0 (T 1), none⟩,
 ⟨(some 20), .load none (T 19), none⟩,
 ⟨(some 21), .bin .neq (T 20) (.const (.string ⟨#[]⟩)), none⟩])
 (.cond (T 21)
 (.seq (.reg [⟨(some 22), .mv (T 4), none⟩,
 ⟨(some 23), .faddr 0 (T 1), none⟩,
 ⟨(some 24), .load none (T 23), none⟩,
 ⟨(some 25), .apps 1 (T 22) (T 24), none⟩,
 ⟨(some 4), .mv (T 25), none⟩])
 (.reg [⟨(some 26), .mv (T 4), none⟩,
 ⟨(some 27), .bslice none [(.const (.int .u8 (0)))], none⟩,
 ⟨(some 28), .app none 1 (T 26) (T 27), none⟩,
 ⟨(some 4), .mv (T 28), none⟩]))
 .skip))
 (.seq (.reg [⟨(some 29), .mv (T 4), none⟩,
 ⟨(some 2), .mv (T 29), none⟩])
 .ret))))))))
theorem e_gzip_head : slimC Tryz.prog 30 (Tryz.f39.body.getD .skip) = s_gzip_head := by kernel_rfl
theorem r_gzip_head : slimRes Tryz.prog Tryz.f39 = some [.tmp 2] := by kernel_rfl
def s_gzip_tail : SCode :=
 (.seq (.reg [⟨(some 2), .alloc (List.replicate 8 (.int .u8 (0))), none⟩])
 (.seq (.reg [⟨(some 3), .alloc (List.replicate 8 (.int .u8 (0))), none⟩])
 (.seq (.reg [⟨(some 4), .sla 8 none (T 3) none none, none⟩,
 ⟨(some 5), .mv (T 0), none⟩,
 ⟨(some 6), .call false n_digest_Crc [(T 5)], none⟩,
 ⟨(some 7), .ci .u64 (T 6), none⟩,
 ⟨(some 8), .call false n_codec_Le [(T 7), (C (4))], none⟩,
 ⟨(some 9), .copy (T 4) (T 8), none⟩])
 (.seq (.reg [⟨(some 10), .sla 8 none (T 3) (some (C (4))) none, none⟩,
 ⟨(some 11), .mv (T 0), none⟩,
 ⟨(some 12), .len false (T 11), none⟩,
 ⟨(some 13), .ci .u64 (T 12), none⟩,
 ⟨(some 14), .call false n_codec_Le [(T 13), (C (4))], none⟩,
 ⟨(some 15), .copy (T 10) (T 14), none⟩])
 (.seq (.reg [⟨(some 16), .load (some 8) (T 3), none⟩,
 ⟨none, .store (some 8) (T 2) (T 16), none⟩])
 .ret)))))
theorem e_gzip_tail : slimC Tryz.prog 17 (Tryz.f37.body.getD .skip) = s_gzip_tail := by kernel_rfl
theorem r_gzip_tail : slimRes Tryz.prog Tryz.f37 = some [.cell 2 (some 8)] := by kernel_rfl
def s_gzip_Unpack : SCode :=
 (.seq (.reg [⟨(some 4), .mv (.const (.slice none 0 0)), none⟩,
 ⟨(some 5), .alloc [(.string ⟨#[]⟩), (.int .i64 (0)), (.int .i64 (0))], none⟩])
 (.seq (.seq (.reg [⟨(some 11), .mv (T 1), none⟩,
 ⟨(some 12), .bin .lss (T 11) (C (0)), none⟩,
 ⟨(some 13), .mv (T 12), none⟩,
 ⟨(some 14), .mv (T 1), (some (13, false))⟩,
 ⟨(some 15), .bin .gtr (T 14) (C (16777216)), (some (13, false))⟩,
 ⟨(some 16), .pick (T 13) (.const (.bool true)) (T 15), none⟩])
 (.cond (T 16)
 (.seq (.reg [⟨(some 17), .build [(.string ⟨#[]⟩), (.int .i64 (0)), (.int .i64 (0))] [(2, 1, (C (1)))], none⟩,
 ⟨(some 4), .mv (.const (.slice none 0 0)), none⟩,
 ⟨none, .store (some 3) (T 5) (T 17), none⟩])
 .ret)
 .skip))
 (.seq (.reg [⟨(some 6), .mv (.const (.slice none 0 0)), none⟩])
 (.seq (.seq (.reg [⟨(some 7), .mv (C (0)), none⟩])
 (.block 0
 (.loop
 (.seq (.seq (.reg [⟨(some 18), .mv (T 7), none⟩,
 ⟨(some 19), .bin .eql (T 18) (C (0)), none⟩,
 ⟨(some 20), .mv (T 19), none⟩,
 ⟨(some 21), .mv (T 7), (some (20, false))⟩,
 ⟨(some 22), .mv (T 0), (some (20, false))⟩,
 ⟨(some 23), .len false (T 22), (some (20, false))⟩,
 ⟨(some 24), .bin .lss (T 21) (T 23), (some (20, false))⟩,
 ⟨(some 25), .pick (T 20) (.const (.bool true)) (T 24), none⟩])
 (.cond (T 25)
 .skip
 (.exit 0)))
 (.block 1
 (.seq (.reg [⟨(some 26), .mv (T 0), none⟩,
 ⟨(some 27), .mv (T 7), none⟩,
 ⟨(some 28), .sl none (T 26) (some (T 27)) none, none⟩,
 ⟨(some 29), .build [(.slice none 0 0), (.int .i64 (0))] [(0, 1, (T 28))], none⟩,
 ⟨(some 30), .box (T 29), none⟩,
 ⟨(some 8), .mv (T 30), none⟩])
 (.seq (.reg [⟨(some 32), .mv (T 8), none⟩,
 ⟨(some 33), .mv (T 1), none⟩,
 ⟨(some 34), .call true n_gzip_reader_member [(T 32), (T 33)], none⟩,
 ⟨(some 31), .mv (T 34), none⟩,
 ⟨(some 35), .ext (T 31) 0, none⟩,
 ⟨(some 36), .ext (T 31) 1, none⟩,
 ⟨(some 9), .alloc [(.string ⟨#[]⟩), (.int .i64 (0)), (.slice none 0 0)], none⟩,
 ⟨none, .store (some 3) (T 9) (T 35), none⟩,
 ⟨(some 10), .mv (T 36), none⟩])
 (.seq (.seq (.reg [⟨(some 37), .mv (T 10), none⟩,
 ⟨(some 38), .bin .neq (T 37) (C (0)), none⟩])
 (.cond (T 38)
 (.seq (.reg [⟨(some 39), .mv (T 7), none⟩,
 ⟨(some 40), .mv (T 10), none⟩,
 ⟨(some 41), .build [(.string ⟨#[]⟩), (.int .i64 (0)), (.int .i64 (0))] [(1, 1, (T 39)), (2, 1, (T 40))], none⟩,
 ⟨(some 4), .mv (.const (.slice none 0 0)), none⟩,
 ⟨none, .store (some 3) (T 5) (T 41), none⟩])
 .ret)
 .skip))
 (.seq (.reg [⟨(some 42), .mv (T 6), none⟩,
 ⟨(some 43), .load (some 3) (T 9), none⟩,
 ⟨(some 44), .bslice (some 3) [(T 43)], none⟩,
 ⟨(some 45), .app (some 3) 48 (T 42) (T 44), none⟩,
 ⟨(some 6), .mv (T 45), none⟩])
 (.seq (.reg [⟨(some 46), .mv (T 1), none⟩,
 ⟨(some 47), .faddr 2 (T 9), none⟩,
 ⟨(some 48), .load none (T 47), none⟩,
 ⟨(some 49), .len false (T 48), none⟩,
 ⟨(some 50), .bin .sub (T 46) (T 49), none⟩,
 ⟨(some 1), .mv (T 50), none⟩])
 (.reg [⟨(some 51), .mv (T 7), none⟩,
 ⟨(some 52), .mv (T 8), none⟩,
 ⟨(some 53), .nilc (T 52), none⟩,
 ⟨(some 54), .faddr 1 (T 53), none⟩,
 ⟨(some 55), .load none (T 54), none⟩,
 ⟨(some 56), .bin .add (T 51) (T 55), none⟩,
 ⟨(some 7), .mv (T 56), none⟩])))))))))))
 (.seq (.reg [⟨(some 57), .mv (T 6), none⟩,
 ⟨(some 58), .build [(.string ⟨#[]⟩), (.int .i64 (0)), (.int .i64 (0))] [], none⟩,
 ⟨(some 4), .mv (T 57), none⟩,
 ⟨none, .store (some 3) (T 5) (T 58), none⟩])
 .ret)))))
theorem e_gzip_Unpack : slimC Tryz.prog 59 (Tryz.f16.body.getD .skip) = s_gzip_Unpack := by kernel_rfl
theorem r_gzip_Unpack : slimRes Tryz.prog Tryz.f16 = some [.tmp 4, .cell 5 (some 3)] := by kernel_rfl
def s_gzip_reader_member : SCode :=
 (.seq (.reg [⟨(some 4), .alloc [(.string ⟨#[]⟩), (.int .i64 (0)), (.slice none 0 0)], none⟩,
 ⟨(some 5), .mv (C (0)), none⟩])
 (.seq (.reg [⟨(some 13), .mv (T 0), none⟩,
 ⟨(some 14), .call true n_gzip_reader_head [(T 13)], none⟩,
 ⟨(some 12), .mv (T 14), none⟩,
 ⟨(some 15), .ext (T 12) 0, none⟩,
 ⟨(some 16), .ext (T 12) 1, none⟩,
 ⟨(some 17), .ext (T 12) 2, none⟩,
 ⟨(some 6), .mv (T 15), none⟩,
 ⟨(some 7), .mv (T 16), none⟩,
 ⟨(some 8), .mv (T 17), none⟩])
 (.seq (.seq (.reg [⟨(some 18), .mv (T 8), none⟩,
 ⟨(some 19), .bin .neq (T 18) (C (0)), none⟩])
 (.cond (T 19)
 (.seq (.reg [⟨(some 20), .build [(.string ⟨#[]⟩), (.int .i64 (0)), (.slice none 0 0)] [], none⟩,
 ⟨(some 21), .mv (T 8), none⟩,
 ⟨none, .store (some 3) (T 4) (T 20), none⟩,
 ⟨(some 5), .mv (T 21), none⟩])
 .ret)
 .skip))
 (.seq (.reg [⟨(some 23), .mv (T 0), none⟩,
 ⟨(some 24), .mv (T 6), none⟩,
 ⟨(some 25), .call true n_gzip_reader_told [(T 23), (T 24)], none⟩,
 ⟨(some 22), .mv (T 25), none⟩,
 ⟨(some 26), .ext (T 22) 0, none⟩,
 ⟨(some 27), .ext (T 22) 1, none⟩,
 ⟨(some 9), .mv (T 26), none⟩,
 ⟨(some 8), .mv (T 27), none⟩])
 (.seq (.seq (.reg [⟨(some 28), .mv (T 8), none⟩,
 ⟨(some 29), .bin .neq (T 28) (C (0)), none⟩])
 (.cond (T 29)
 (.seq (.reg [⟨(some 30), .build [(.string ⟨#[]⟩), (.int .i64 (0)), (.slice none 0 0)] [], none⟩,
 ⟨(some 31), .mv (T 8), none⟩,
 ⟨none, .store (some 3) (T 4) (T 30), none⟩,
 ⟨(some 5), .mv (T 31), none⟩])
 .ret)
 .skip))
 (.seq (.reg [⟨(some 33), .mv (T 0), none⟩,
 ⟨(some 34), .mv (T 1), none⟩,
 ⟨(some 35), .call true n_gzip_reader_data [(T 33), (T 34)], none⟩,
 ⟨(some 32), .mv (T 35), none⟩,
 ⟨(some 36), .ext (T 32) 0, none⟩,
 ⟨(some 37), .ext (T 32) 1, none⟩,
 ⟨(some 10), .mv (T 36), none⟩,
 ⟨(some 8), .mv (T 37), none⟩])
 (.seq (.seq (.reg [⟨(some 38), .mv (T 8), none⟩,
 ⟨(some 39), .bin .neq (T 38) (C (0)), none⟩])
 (.cond (T 39)
 (.seq (.reg [⟨(some 40), .build [(.string ⟨#[]⟩), (.int .i64 (0)), (.slice none 0 0)] [], none⟩,
 ⟨(some 41), .mv (T 8), none⟩,
 ⟨none, .store (some 3) (T 4) (T 40), none⟩,
 ⟨(some 5), .mv (T 41), none⟩])
 .ret)
 .skip))
 (.seq (.seq (.reg [⟨(some 42), .mv (T 0), none⟩,
 ⟨(some 43), .mv (T 10), none⟩,
 ⟨(some 44), .call true n_gzip_reader_tail [(T 42), (T 43)], none⟩,
 ⟨(some 11), .mv (T 44), none⟩])
 (.seq (.reg [⟨(some 45), .mv (T 11), none⟩,
 ⟨(some 46), .bin .neq (T 45) (C (0)), none⟩])
 (.cond (T 46)
 (.seq (.reg [⟨(some 47), .build [(.string ⟨#[]⟩), (.int .i64 (0)), (.slice none 0 0)] [], none⟩,
 ⟨(some 48), .mv (T 11), none⟩,
 ⟨none, .store (some 3) (T 4) (T 47), none⟩,
 ⟨(some 5), .mv (T 48), none⟩])
 .ret)
 .skip)))
 (.seq (.reg [⟨(some 49), .mv (T 9), none⟩,
 ⟨(some 50), .mv (T 7), none⟩,
 ⟨(some 51), .mv (T 10), none⟩,
 ⟨(some 52), .build [(.string ⟨#[]⟩), (.int .i64 (0)), (.slice none 0 0)] [(0, 1, (T 49)), (1, 1, (T 50)), (2, 1, (T 51))], none⟩,
 ⟨none, .store (some 3) (T 4) (T 52), none⟩,
 ⟨(some 5), .mv (C (0)), none⟩])
 .ret)))))))))
theorem e_gzip_reader_member : slimC Tryz.prog 53 (Tryz.f43.body.getD .skip) = s_gzip_reader_member := by kernel_rfl
theorem r_gzip_reader_member : slimRes Tryz.prog Tryz.f43 = some [.cell 4 (some 3), .tmp 5] := by kernel_rfl
def s_gzip_reader_head : SCode :=
 (.seq (.reg [⟨(some 2), .mv (.const (.int .u8 (0))), none⟩,
 ⟨(some 3), .mv (C (0)), none⟩,
 ⟨(some 4), .mv (C (0)), none⟩])
 (.seq (.reg [⟨(some 9), .mv (T 0), none⟩,
 ⟨(some 10), .call true n_gzip_reader_take [(T 9), (C (10))], none⟩,
 ⟨(some 8), .mv (T 10), none⟩,
 ⟨(some 11), .ext (T 8) 0, none⟩,
 ⟨(some 12), .ext (T 8) 1, none⟩,
 ⟨(some 5), .mv (T 11), none⟩,
 ⟨(some 4), .mv (T 12), none⟩])
 (.seq (.block 0
 (.seq (.reg [⟨(some 14), .mv (T 4), none⟩,
 ⟨(some 15), .bin .neq (T 14) (C (0)), none⟩,
 ⟨(some 13), .mv (T 15), none⟩])
 (.cond (T 13)
 (.seq (.reg [⟨(some 16), .mv (T 4), none⟩,
 ⟨(some 2), .mv (.const (.int .u8 (0))), none⟩,
 ⟨(some 3), .mv (C (0)), none⟩,
 ⟨(some 4), .mv (T 16), none⟩])
 .ret)
 (.seq (.reg [⟨(some 18), .mv (T 5), none⟩,
 ⟨(some 19), .iaddr none (T 18) (C (0)), none⟩,
 ⟨(some 20), .load none (T 19), none⟩,
 ⟨(some 21), .bin .neq (T 20) (.const (.int .u8 (31))), none⟩,
 ⟨(some 22), .mv (T 21), none⟩,
 ⟨(some 23), .mv (T 5), (some (22, false))⟩,
 ⟨(some 24), .iaddr none (T 23) (C (1)), (some (22, false))⟩,
 ⟨(some 25), .load none (T 24), (some (22, false))⟩,
 ⟨(some 26), .bin .neq (T 25) (.const (.int .u8 (139))), (some (22, false))⟩,
 ⟨(some 27), .pick (T 22) (.const (.bool true)) (T 26), none⟩,
 ⟨(some 17), .mv (T 27), none⟩])
 (.cond (T 17)
 (.seq (.reg [⟨(some 2), .mv (.const (.int .u8 (0))), none⟩,
 ⟨(some 3), .mv (C (0)), none⟩,
 ⟨(some 4), .mv (C (3)), none⟩])
 .ret)
 (.seq (.reg [⟨(some 29), .mv (T 5), none⟩,
 ⟨(some 30), .iaddr none (T 29) (C (2)), none⟩,
 ⟨(some 31), .load none (T 30), none⟩,
 ⟨(some 32), .bin .neq (T 31) (.const (.int .u8 (8))), none⟩,
 ⟨(some 28), .mv (T 32), none⟩])
 (.cond (T 28)
 (.seq (.reg [⟨(some 2), .mv (.const (.int .u8 (0))), none⟩,
 ⟨(some 3), .mv (C (0)), none⟩,
 ⟨(some 4), .mv (C (14)), none⟩])
 .ret)
 (.seq (.reg [⟨(some 34), .mv (T 5), none⟩,
 ⟨(some 35), .iaddr none (T 34) (C (3)), none⟩,
 ⟨(some 36), .load none (T 35), none⟩,
 ⟨(some 37), .bin .and (T 36) (.const (.int .u8 (224))), none⟩,
 ⟨(some 38), .bin .neq (T 37) (.const (.int .u8 (0))), none⟩,
 ⟨(some 33), .mv (T 38), none⟩])
 (.cond (T 33)
 (.seq (.reg [⟨(some 2), .mv (.const (.int .u8 (0))), none⟩,
 ⟨(some 3), .mv (C (0)), none⟩,
 ⟨(some 4), .mv (C (3)), none⟩])
 .ret)
 .skip)))))))))
 (.seq (.reg [⟨(some 40), .mv (T 5), none⟩,
 ⟨(some 41), .call true n_codec_GetLe [(T 40), (C (4)), (C (4))], none⟩,
 ⟨(some 39), .mv (T 41), none⟩,
 ⟨(some 42), .ext (T 39) 0, none⟩,
 ⟨(some 43), .ext (T 39) 1, none⟩,
 ⟨(some 6), .mv (T 42), none⟩,
 ⟨(some 7), .mv (T 43), none⟩])
 (.seq (.reg [⟨(some 44), .mv (T 5), none⟩,
 ⟨(some 45), .iaddr none (T 44) (C (3)), none⟩,
 ⟨(some 46), .load none (T 45), none⟩,
 ⟨(some 47), .mv (T 6), none⟩,
 ⟨(some 48), .ci .i64 (T 47), none⟩,
 ⟨(some 2), .mv (T 46), none⟩,
 ⟨(some 3), .mv (T 48), none⟩,
 ⟨(some 4), .mv (C (0)), none⟩])
 .ret)))))
theorem e_gzip_reader_head : slimC Tryz.prog 49 (Tryz.f73.body.getD .skip) = s_gzip_reader_head := by kernel_rfl
theorem r_gzip_reader_head : slimRes Tryz.prog Tryz.f73 = some [.tmp 2, .tmp 3, .tmp 4] := by kernel_rfl
def s_gzip_reader_told : SCode :=
 (.seq (.reg [⟨(some 4), .mv (.const (.string ⟨#[]⟩)), none⟩,
 ⟨(some 5), .mv (C (0)), none⟩])
 (.seq (.seq (.reg [⟨(some 6), .mv (T 1), none⟩,
 ⟨(some 7), .bin .and (T 6) (.const (.int .u8 (4))), none⟩,
 ⟨(some 8), .bin .neq (T 7) (.const (.int .u8 (0))), none⟩])
 (.cond (T 8)
 (.reg [⟨(some 9), .mv (T 0), none⟩,
 ⟨(some 10), .call true n_gzip_reader_extra [(T 9)], none⟩,
 ⟨(some 5), .mv (T 10), none⟩])
 .skip))
 (.seq (.seq (.reg [⟨(some 11), .mv (T 5), none⟩,
 ⟨(some 12), .bin .eql (T 11) (C (0)), none⟩,
 ⟨(some 13), .mv (T 12), none⟩,
 ⟨(some 14), .mv (T 1), (some (13, true))⟩,
 ⟨(some 15), .bin .and (T 14) (.const (.int .u8 (8))), (some (13, true))⟩,
 ⟨(some 16), .bin .neq (T 15) (.const (.int .u8 (0))), (some (13, true))⟩,
 ⟨(some 17), .pick (T 13) (T 16) (.const (.bool false)), none⟩])
 (.cond (T 17)
 (.reg [⟨(some 19), .mv (T 0), none⟩,
 ⟨(some 20), .call true n_gzip_reader_name [(T 19)], none⟩,
 ⟨(some 18), .mv (T 20), none⟩,
 ⟨(some 21), .ext (T 18) 0, none⟩,
 ⟨(some 22), .ext (T 18) 1, none⟩,
 ⟨(some 4), .mv (T 21), none⟩,
 ⟨(some 5), .mv (T 22), none⟩])
 .skip))
 (.seq (.seq (.reg [⟨(some 23), .mv (T 5), none⟩,
 ⟨(some 24), .bin .eql (T 23) (C (0)), none⟩,
 ⟨(some 25), .mv (T 24), none⟩,
 ⟨(some 26), .mv (T 1), (some (25, true))⟩,
 ⟨(some 27), .bin .and (T 26) (.const (.int .u8 (16))), (some (25, true))⟩,
 ⟨(some 28), .bin .neq (T 27) (.const (.int .u8 (0))), (some (25, true))⟩,
 ⟨(some 29), .pick (T 25) (T 28) (.const (.bool false)), none⟩])
 (.cond (T 29)
 (.reg [⟨(some 31), .mv (T 0), none⟩,
 ⟨(some 32), .call true n_gzip_reader_text [(T 31)], none⟩,
 ⟨(some 30), .mv (T 32), none⟩,
 ⟨(some 33), .ext (T 30) 0, none⟩,
 ⟨(some 34), .ext (T 30) 1, none⟩,
 ⟨(some 5), .mv (T 34), none⟩])
 .skip))
 (.seq (.seq (.reg [⟨(some 35), .mv (T 5), none⟩,
 ⟨(some 36), .bin .eql (T 35) (C (0)), none⟩,
 ⟨(some 37), .mv (T 36), none⟩,
 ⟨(some 38), .mv (T 1), (some (37, true))⟩,
 ⟨(some 39), .bin .and (T 38) (.const (.int .u8 (2))), (some (37, true))⟩,
 ⟨(some 40), .bin .neq (T 39) (.const (.int .u8 (0))), (some (37, true))⟩,
 ⟨(some 41), .pick (T 37) (T 40) (.const (.bool false)), none⟩])
 (.cond (T 41)
 (.reg [⟨(some 42), .mv (T 0), none⟩,
 ⟨(some 43), .call true n_gzip_reader_headSum [(T 42)], none⟩,
 ⟨(some 5), .mv (T 43), none⟩])
 .skip))
 (.seq (.reg [⟨(some 44), .mv (T 4), none⟩,
 ⟨(some 45), .mv (T 5), none⟩,
 ⟨(some 4), .mv (T 44), none⟩,
 ⟨(some 5), .mv (T 45), none⟩])
 .ret))))))
theorem e_gzip_reader_told : slimC Tryz.prog 46 (Tryz.f74.body.getD .skip) = s_gzip_reader_told := by kernel_rfl
theorem r_gzip_reader_told : slimRes Tryz.prog Tryz.f74 = some [.tmp 4, .tmp 5] := by kernel_rfl
def s_gzip_reader_data : SCode :=
 (.seq (.reg [⟨(some 4), .mv (.const (.slice none 0 0)), none⟩,
 ⟨(some 5), .mv (C (0)), none⟩])
 (.seq (.reg [⟨(some 12), .mv (T 0), none⟩,
 ⟨(some 13), .nilc (T 12), none⟩,
 ⟨(some 14), .faddr 0 (T 13), none⟩,
 ⟨(some 15), .load none (T 14), none⟩,
 ⟨(some 16), .mv (T 0), none⟩,
 ⟨(some 17), .nilc (T 16), none⟩,
 ⟨(some 18), .faddr 1 (T 17), none⟩,
 ⟨(some 19), .load none (T 18), none⟩,
 ⟨(some 20), .sl none (T 15) (some (T 19)) none, none⟩,
 ⟨(some 6), .mv (T 20), none⟩])
 (.seq (.reg [⟨(some 7), .mv (C (4096)), none⟩])
 (.block 0
 (.loop
 (.seq (.block 1
 (.seq (.reg [⟨(some 23), .mv (T 6), none⟩,
 ⟨(some 24), .mv (T 7), none⟩,
 ⟨(some 25), .mv (T 6), none⟩,
 ⟨(some 26), .len false (T 25), none⟩,
 ⟨(some 27), .mm false (T 24) [(T 26)], none⟩,
 ⟨(some 28), .sl none (T 23) none (some (T 27)), none⟩,
 ⟨(some 8), .mv (T 28), none⟩])
 (.seq (.reg [⟨(some 30), .mv (T 8), none⟩,
 ⟨(some 31), .mv (T 1), none⟩,
 ⟨(some 32), .call true n_inflate_Inflate [(T 30), (T 31)], none⟩,
 ⟨(some 29), .mv (T 32), none⟩,
 ⟨(some 33), .ext (T 29) 0, none⟩,
 ⟨(some 34), .ext (T 29) 1, none⟩,
 ⟨(some 35), .ext (T 29) 2, none⟩,
 ⟨(some 9), .mv (T 33), none⟩,
 ⟨(some 10), .mv (T 34), none⟩,
 ⟨(some 11), .mv (T 35), none⟩])
 (.seq (.seq (.reg [⟨(some 36), .mv (T 11), none⟩,
 ⟨(some 37), .bin .eql (T 36) (C (2)), none⟩,
 ⟨(some 38), .mv (T 37), none⟩,
 ⟨(some 39), .mv (T 8), (some (38, true))⟩,
 ⟨(some 40), .len false (T 39), (some (38, true))⟩,
 ⟨(some 41), .mv (T 6), (some (38, true))⟩,
 ⟨(some 42), .len false (T 41), (some (38, true))⟩,
 ⟨(some 43), .bin .lss (T 40) (T 42), (some (38, true))⟩,
 ⟨(some 44), .pick (T 38) (T 43) (.const (.bool false)), none⟩])
 (.cond (T 44)
 (.exit 1)
 .skip))
 (.seq (.reg [⟨(some 45), .mv (T 0), none⟩,
 ⟨(some 46), .nilc (T 45), none⟩,
 ⟨(some 47), .faddr 1 (T 46), none⟩,
 ⟨(some 48), .load none (T 47), none⟩,
 ⟨(some 49), .mv (T 10), none⟩,
 ⟨(some 50), .bin .add (T 48) (T 49), none⟩,
 ⟨(some 51), .nilc (T 45), none⟩,
 ⟨(some 52), .faddr 1 (T 51), none⟩,
 ⟨none, .store none (T 52) (T 50), none⟩])
 (.seq (.reg [⟨(some 53), .mv (T 9), none⟩,
 ⟨(some 54), .mv (T 11), none⟩,
 ⟨(some 4), .mv (T 53), none⟩,
 ⟨(some 5), .mv (T 54), none⟩])
 .ret))))))
 (.reg [⟨(some 21), .mv (T 7), none⟩,
 ⟨(some 22), .bin .mul (T 21) (C (4)), none⟩,
 ⟨(some 7), .mv (T 22), none⟩])))))))
theorem e_gzip_reader_data : slimC Tryz.prog 55 (Tryz.f75.body.getD .skip) = s_gzip_reader_data := by kernel_rfl
theorem r_gzip_reader_data : slimRes Tryz.prog Tryz.f75 = some [.tmp 4, .tmp 5] := by kernel_rfl
def s_gzip_reader_tail : SCode :=
 (.seq (.reg [⟨(some 4), .mv (C (0)), none⟩])
 (.seq (.reg [⟨(some 9), .mv (T 0), none⟩,
 ⟨(some 10), .call true n_gzip_reader_take [(T 9), (C (8))], none⟩,
 ⟨(some 8), .mv (T 10), none⟩,
 ⟨(some 11), .ext (T 8) 0, none⟩,
 ⟨(some 12), .ext (T 8) 1, none⟩,
 ⟨(some 5), .mv (T 11), none⟩,
 ⟨(some 6), .mv (T 12), none⟩])
 (.seq (.seq (.reg [⟨(some 13), .mv (T 6), none⟩,
 ⟨(some 14), .bin .neq (T 13) (C (0)), none⟩])
 (.cond (T 14)
 (.seq (.reg [⟨(some 15), .mv (T 6), none⟩,
 ⟨(some 4), .mv (T 15), none⟩])
 .ret)
 .skip))
 (.seq (.reg [⟨(some 7), .alloc (List.replicate 8 (.int .u8 (0))), none⟩])
 (.seq (.reg [⟨(some 16), .sla 8 none (T 7) none none, none⟩,
 ⟨(some 17), .mv (T 5), none⟩,
 ⟨(some 18), .copy (T 16) (T 17), none⟩])
 (.seq (.seq (.reg3 [⟨(some 19), .load (some 8) (T 7), none⟩,
 ⟨(some 20), .mv (T 1), none⟩,
 ⟨(some 21), .call true n_gzip_tail [(T 20)], none⟩]
 [((some 8), (T 7), 19)]
 [⟨(some 22), .aeq true (.agg #[(.int .u8 (0)), (.int .u8 (0)), (.int .u8 (0)), (.int .u8 (0)), (.int .u8 (0)), (.int .u8 (0)), (.int .u8 (0)), (.int .u8 (0))]) (T 19) (T 21), none⟩])
 (.cond (T 22)
 (.seq (.reg [⟨(some 4), .mv (C (5)), none⟩])
 .ret)
 .skip))
 (.seq (.reg [⟨(some 4), .mv (C (0)), none⟩])
 .ret)))))))
theorem e_gzip_reader_tail : slimC Tryz.prog 23 (Tryz.f76.body.getD .skip) = s_gzip_reader_tail := by kernel_rfl
theorem r_gzip_reader_tail : slimRes Tryz.prog Tryz.f76 = some [.tmp 4] := by kernel_rfl
def s_gzip_reader_take : SCode :=
 (.seq (.reg [⟨(some 4), .mv (.const (.slice none 0 0)), none⟩,
 ⟨(some 5), .mv (C (0)), none⟩])
 (.seq (.seq (.reg [⟨(some 7), .mv (T 0), none⟩,
 ⟨(some 8), .nilc (T 7), none⟩,
 ⟨(some 9), .faddr 0 (T 8), none⟩,
 ⟨(some 10), .load none (T 9), none⟩,
 ⟨(some 11), .len false (T 10), none⟩,
 ⟨(some 12), .mv (T 0), none⟩,
 ⟨(some 13), .nilc (T 12), none⟩,
 ⟨(some 14), .faddr 1 (T 13), none⟩,
 ⟨(some 15), .load none (T 14), none⟩,
 ⟨(some 16), .bin .sub (T 11) (T 15), none⟩,
 ⟨(some 17), .mv (T 1), none⟩,
 ⟨(some 18), .bin .lss (T 16) (T 17), none⟩])
 (.cond (T 18)
 (.seq (.reg [⟨(some 4), .mv (.const (.slice none 0 0)), none⟩,
 ⟨(some 5), .mv (C (2)), none⟩])
 .ret)
 .skip))
 (.seq (.reg [⟨(some 19), .mv (T 0), none⟩,
 ⟨(some 20), .nilc (T 19), none⟩,
 ⟨(some 21), .faddr 0 (T 20), none⟩,
 ⟨(some 22), .load none (T 21), none⟩,
 ⟨(some 23), .mv (T 0), none⟩,
 ⟨(some 24), .nilc (T 23), none⟩,
 ⟨(some 25), .faddr 1 (T 24), none⟩,
 ⟨(some 26), .load none (T 25), none⟩,
 ⟨(some 27), .mv (T 0), none⟩,
 ⟨(some 28), .nilc (T 27), none⟩,
 ⟨(some 29), .faddr 1 (T 28), none⟩,
 ⟨(some 30), .load none (T 29), none⟩,
 ⟨(some 31), .mv (T 1), none⟩,
 ⟨(some 32), .bin .add (T 30) (T 31), none⟩,
 ⟨(some 33), .sl none (T 22) (some (T 26)) (some (T 32)), none⟩,
 ⟨(some 6), .mv (T 33), none⟩])
 (.seq (.reg [⟨(some 34), .mv (T 0), none⟩,
 ⟨(some 35), .nilc (T 34), none⟩,
 ⟨(some 36), .faddr 1 (T 35), none⟩,
 ⟨(some 37), .load none (T 36), none⟩,
 ⟨(some 38), .mv (T 1), none⟩,
 ⟨(some 39), .bin .add (T 37) (T 38), none⟩,
 ⟨(some 40), .nilc (T 34), none⟩,
 ⟨(some 41), .faddr 1 (T 40), none⟩,
 ⟨none, .store none (T 41) (T 39), none⟩])
 (.seq (.reg [⟨(some 42), .mv (T 6), none⟩,
 ⟨(some 4), .mv (T 42), none⟩,
 ⟨(some 5), .mv (C (0)), none⟩])
 .ret)))))
theorem e_gzip_reader_take : slimC Tryz.prog 43 (Tryz.f114.body.getD .skip) = s_gzip_reader_take := by kernel_rfl
theorem r_gzip_reader_take : slimRes Tryz.prog Tryz.f114 = some [.tmp 4, .tmp 5] := by kernel_rfl
def s_gzip_reader_name : SCode :=
 (.seq (.reg [⟨(some 2), .mv (.const (.string ⟨#[]⟩)), none⟩,
 ⟨(some 3), .mv (C (0)), none⟩])
 (.seq (.reg [⟨(some 7), .mv (T 0), none⟩,
 ⟨(some 8), .call true n_gzip_reader_text [(T 7)], none⟩,
 ⟨(some 6), .mv (T 8), none⟩,
 ⟨(some 9), .ext (T 6) 0, none⟩,
 ⟨(some 10), .ext (T 6) 1, none⟩,
 ⟨(some 4), .mv (T 9), none⟩,
 ⟨(some 5), .mv (T 10), none⟩])
 (.seq (.seq (.reg [⟨(some 11), .mv (T 5), none⟩,
 ⟨(some 12), .bin .neq (T 11) (C (0)), none⟩])
 (.cond (T 12)
 (.seq (.reg [⟨(some 13), .mv (T 5), none⟩,
 ⟨(some 2), .mv (.const (.string ⟨#[]⟩)), none⟩,
 ⟨(some 3), .mv (T 13), none⟩])
 .ret)
 .skip))
 (.seq (.seq (.reg [⟨(some 14), .mv (T 4), none⟩,
 ⟨(some 15), .len false (T 14), none⟩,
 ⟨(some 16), .bin .gtr (T 15) (C (200)), none⟩])
 (.cond (T 16)
 (.seq (.reg [⟨(some 2), .mv (.const (.string ⟨#[]⟩)), none⟩,
 ⟨(some 3), .mv (C (10)), none⟩])
 .ret)
 .skip))
 (.seq (.reg [⟨(some 17), .mv (T 4), none⟩,
 ⟨(some 18), .b2s (T 17), none⟩,
 ⟨(some 2), .mv (T 18), none⟩,
 ⟨(some 3), .mv (C (0)), none⟩])
 .ret)))))
theorem e_gzip_reader_name : slimC Tryz.prog 19 (Tryz.f117.body.getD .skip) = s_gzip_reader_name := by kernel_rfl
theorem r_gzip_reader_name : slimRes Tryz.prog Tryz.f117 = some [.tmp 2, .tmp 3] := by kernel_rfl
def s_gzip_reader_text : SCode :=
 (.seq (.reg [⟨(some 2), .mv (.const (.slice none 0 0)), none⟩,
 ⟨(some 3), .mv (C (0)), none⟩])
 (.seq (.reg [⟨(some 6), .mv (T 0), none⟩,
 ⟨(some 7), .nilc (T 6), none⟩,
 ⟨(some 8), .faddr 0 (T 7), none⟩,
 ⟨(some 9), .load none (T 8), none⟩,
 ⟨(some 10), .mv (T 0), none⟩,
 ⟨(some 11), .nilc (T 10), none⟩,
 ⟨(some 12), .faddr 1 (T 11), none⟩,
 ⟨(some 13), .load none (T 12), none⟩,
 ⟨(some 14), .sl none (T 9) (some (T 13)) none, none⟩,
 ⟨(some 15), .call true n_bytes_IndexByte [(T 14), (.const (.int .u8 (0)))], none⟩,
 ⟨(some 4), .mv (T 15), none⟩])
 (.seq (.seq (.reg [⟨(some 16), .mv (T 4), none⟩,
 ⟨(some 17), .bin .lss (T 16) (C (0)), none⟩])
 (.cond (T 17)
 (.seq (.reg [⟨(some 2), .mv (.const (.slice none 0 0)), none⟩,
 ⟨(some 3), .mv (C (2)), none⟩])
 .ret)
 .skip))
 (.seq (.reg [⟨(some 18), .mv (T 0), none⟩,
 ⟨(some 19), .nilc (T 18), none⟩,
 ⟨(some 20), .faddr 0 (T 19), none⟩,
 ⟨(some 21), .load none (T 20), none⟩,
 ⟨(some 22), .mv (T 0), none⟩,
 ⟨(some 23), .nilc (T 22), none⟩,
 ⟨(some 24), .faddr 1 (T 23), none⟩,
 ⟨(some 25), .load none (T 24), none⟩,
 ⟨(some 26), .mv (T 0), none⟩,
 ⟨(some 27), .nilc (T 26), none⟩,
 ⟨(some 28), .faddr 1 (T 27), none⟩,
 ⟨(some 29), .load none (T 28), none⟩,
 ⟨(some 30), .mv (T 4), none⟩,
 ⟨(some 31), .bin .add (T 29) (T 30), none⟩,
 ⟨(some 32), .sl none (T 21) (some (T 25)) (some (T 31)), none⟩,
 ⟨(some 5), .mv (T 32), none⟩])
 (.seq (.reg [⟨(some 33), .mv (T 0), none⟩,
 ⟨(some 34), .nilc (T 33), none⟩,
 ⟨(some 35), .faddr 1 (T 34), none⟩,
 ⟨(some 36), .load none (T 35), none⟩,
 ⟨(some 37), .mv (T 4), none⟩,
 ⟨(some 38), .bin .add (T 37) (C (1)), none⟩,
 ⟨(some 39), .bin .add (T 36) (T 38), none⟩,
 ⟨(some 40), .nilc (T 33), none⟩,
 ⟨(some 41), .faddr 1 (T 40), none⟩,
 ⟨none, .store none (T 41) (T 39), none⟩])
 (.seq (.reg [⟨(some 42), .mv (T 5), none⟩,
 ⟨(some 2), .mv (T 42), none⟩,
 ⟨(some 3), .mv (C (0)), none⟩])
 .ret))))))
theorem e_gzip_reader_text : slimC Tryz.prog 43 (Tryz.f118.body.getD .skip) = s_gzip_reader_text := by kernel_rfl
theorem r_gzip_reader_text : slimRes Tryz.prog Tryz.f118 = some [.tmp 2, .tmp 3] := by kernel_rfl
def s_strings_IndexByte : SCode :=
 (.seq (.reg [⟨(some 4), .mv (C (0)), none⟩])
 (.seq (.reg [⟨(some 5), .mv (T 0), none⟩,
 ⟨(some 6), .mv (T 1), none⟩,
 ⟨(some 7), .call true n_stringslite_IndexByte [(T 5), (T 6)], none⟩,
 ⟨(some 4), .mv (T 7), none⟩])
 .ret))
theorem e_strings_IndexByte : slimC Tryz.prog 8 (Tryz.f36.body.getD .skip) = s_strings_IndexByte := by kernel_rfl
theorem r_strings_IndexByte : slimRes Tryz.prog Tryz.f36 = some [.tmp 4] := by kernel_rfl
def s_bytes_Clone : SCode :=
 (.seq (.reg [⟨(some 2), .mv (.const (.slice none 0 0)), none⟩])
 (.seq (.seq (.reg [⟨(some 3), .mv (T 0), none⟩,
 ⟨(some 4), .isnil false (T 3), none⟩])
 (.cond (T 4)
 (.seq (.reg [⟨(some 2), .mv (.const (.slice none 0 0)), none⟩])
 .ret)
 .skip))
 (.seq (.reg [⟨(some 5), .emp none, none⟩,
 ⟨(some 6), .mv (T 0), none⟩,
 ⟨(some 7), .app none 1 (T 5) (T 6), none⟩,
 ⟨(some 2), .mv (T 7), none⟩])
 .ret)))
theorem e_bytes_Clone : slimC Tryz.prog 8 (Tryz.f54.body.getD .skip) = s_bytes_Clone := by kernel_rfl
theorem r_bytes_Clone : slimRes Tryz.prog Tryz.f54 = some [.tmp 2] := by kernel_rfl
def s_slices_Concatbytebyte : SCode :=
 (.seq (.reg [⟨(some 2), .mv (.const (.slice none 0 0)), none⟩])
 (.seq (.reg [⟨(some 3), .mv (C (0)), none⟩])
 (.seq (.seq (.reg [⟨(some 9), .mv (T 0), none⟩,
 ⟨(some 10), .len false (T 9), none⟩,
 ⟨(some 11), .mv (C (0)), none⟩])
 (.block 0
 (.loop
 (.seq (.reg [⟨(some 12), .bin .lss (T 11) (T 10), none⟩])
 (.seq (.cond (T 12)
 .skip
 (.exit 0))
 (.seq (.block 1
 (.seq (.reg [⟨(some 13), .iaddr none (T 9) (T 11), none⟩,
 ⟨(some 14), .load none (T 13), none⟩,
 ⟨(some 5), .mv (T 14), none⟩])
 (.seq (.reg [⟨(some 15), .mv (T 3), none⟩,
 ⟨(some 16), .mv (T 5), none⟩,
 ⟨(some 17), .len false (T 16), none⟩,
 ⟨(some 18), .bin .add (T 15) (T 17), none⟩,
 ⟨(some 3), .mv (T 18), none⟩])
 (.seq (.reg [⟨(some 19), .mv (T 3), none⟩,
 ⟨(some 20), .bin .lss (T 19) (C (0)), none⟩])
 (.cond (T 20)
 (.reg [⟨(some 21), .no, none⟩,
 ⟨none, .no, none⟩])
 .skip)))))
 (.reg [⟨(some 22), .bin .add (T 11) (C (1)), none⟩,
 ⟨(some 11), .mv (T 22), none⟩])))))))
 (.seq (.reg [⟨(some 23), .mv (T 3), none⟩,
 ⟨(some 24), .call true n_slices_Growbytebyte [(.const (.slice none 0 0)), (T 23)], none⟩,
 ⟨(some 6), .mv (T 24), none⟩])
 (.seq (.seq (.reg [⟨(some 25), .mv (T 0), none⟩,
 ⟨(some 26), .len false (T 25), none⟩,
 ⟨(some 27), .mv (C (0)), none⟩])
 (.block 2
 (.loop
 (.seq (.reg [⟨(some 28), .bin .lss (T 27) (T 26), none⟩])
 (.seq (.cond (T 28)
 .skip
 (.exit 2))
 (.seq (.block 3
 (.seq (.reg [⟨(some 29), .iaddr none (T 25) (T 27), none⟩,
 ⟨(some 30), .load none (T 29), none⟩,
 ⟨(some 8), .mv (T 30), none⟩])
 (.reg [⟨(some 31), .mv (T 6), none⟩,
 ⟨(some 32), .mv (T 8), none⟩,
 ⟨(some 33), .app none 1 (T 31) (T 32), none⟩,
 ⟨(some 6), .mv (T 33), none⟩])))
 (.reg [⟨(some 34), .bin .add (T 27) (C (1)), none⟩,
 ⟨(some 27), .mv (T 34), none⟩])))))))
 (.seq (.reg [⟨(some 35), .mv (T 6), none⟩,
 ⟨(some 2), .mv (T 35), none⟩])
 .ret))))))
theorem e_slices_Concatbytebyte : slimC Tryz.prog 36 (Tryz.f38.body.getD .skip) = s_slices_Concatbytebyte := by kernel_rfl
theorem r_slices_Concatbytebyte : slimRes Tryz.prog Tryz.f38 = some [.tmp 2] := by kernel_rfl
def s_slices_Growbytebyte : SCode :=
 (.seq (.reg [⟨(some 4), .mv (.const (.slice none 0 0)), none⟩])
 (.seq (.seq (.reg [⟨(some 5), .mv (T 1), none⟩,
 ⟨(some 6), .bin .lss (T 5) (C (0)), none⟩])
 (.cond (T 6)
 (.reg [⟨(some 7), .no, none⟩,
 ⟨none, .no, none⟩])
 .skip))
 (.seq (.seq (.reg [⟨(some 8), .mv (T 1), none⟩,
 ⟨(some 9), .mv (T 0), none⟩,
 ⟨(some 10), .capn (T 9), none⟩,
 ⟨(some 11), .mv (T 0), none⟩,
 ⟨(some 12), .len false (T 11), none⟩,
 ⟨(some 13), .bin .sub (T 10) (T 12), none⟩,
 ⟨(some 14), .bin .sub (T 8) (T 13), none⟩,
 ⟨(some 1), .mv (T 14), none⟩])
 (.seq (.reg [⟨(some 15), .mv (T 1), none⟩,
 ⟨(some 16), .bin .gtr (T 15) (C (0)), none⟩])
 (.cond (T 16)
 (.reg [⟨(some 17), .mv (T 0), none⟩,
 ⟨(some 18), .mv (T 0), none⟩,
 ⟨(some 19), .capn (T 18), none⟩,
 ⟨(some 20), .sl none (T 17) none (some (T 19)), none⟩,
 ⟨(some 21), .mv (T 1), none⟩,
 ⟨(some 22), .appz none 1 [(.int .u8 (0))] (T 20) (T 21), none⟩,
 ⟨(some 23), .mv (T 0), none⟩,
 ⟨(some 24), .len false (T 23), none⟩,
 ⟨(some 25), .sl none (T 22) none (some (T 24)), none⟩,
 ⟨(some 0), .mv (T 25), none⟩])
 .skip)))
 (.seq (.reg [⟨(some 26), .mv (T 0), none⟩,
 ⟨(some 4), .mv (T 26), none⟩])
 .ret))))
theorem e_slices_Growbytebyte : slimC Tryz.prog 27 (Tryz.f70.body.getD .skip) = s_slices_Growbytebyte := by kernel_rfl
theorem r_slices_Growbytebyte : slimRes Tryz.prog Tryz.f70 = some [.tmp 4] := by kernel_rfl
def s_codec_Le : SCode :=
 (.seq (.reg [⟨(some 4), .mv (.const (.slice none 0 0)), none⟩])
 (.seq (.seq (.reg [⟨(some 7), .mv (T 1), none⟩,
 ⟨(some 8), .bin .lss (T 7) (C (1)), none⟩,
 ⟨(some 9), .mv (T 8), none⟩,
 ⟨(some 10), .mv (T 1), (some (9, false))⟩,
 ⟨(some 11), .bin .gtr (T 10) (C (8)), (some (9, false))⟩,
 ⟨(some 12), .pick (T 9) (.const (.bool true)) (T 11), none⟩])
 (.cond (T 12)
 (.seq (.reg [⟨(some 4), .mv (.const (.slice none 0 0)), none⟩])
 .ret)
 .skip))
 (.seq (.reg [⟨(some 13), .mv (T 1), none⟩,
 ⟨(some 14), .mks none 1 [(.int .u8 (0))] (T 13) (T 13), none⟩,
 ⟨(some 5), .mv (T 14), none⟩])
 (.seq (.seq (.reg [⟨(some 15), .mv (T 1), none⟩,
 ⟨(some 16), .mv (C (0)), none⟩])
 (.block 0
 (.loop
 (.seq (.reg [⟨(some 17), .bin .lss (T 16) (T 15), none⟩])
 (.seq (.cond (T 17)
 .skip
 (.exit 0))
 (.seq (.block 1
 (.seq (.reg [⟨(some 18), .mv (T 16), none⟩,
 ⟨(some 6), .mv (T 18), none⟩])
 (.reg [⟨(some 19), .mv (T 5), none⟩,
 ⟨(some 20), .mv (T 6), none⟩,
 ⟨(some 21), .mv (T 0), none⟩,
 ⟨(some 22), .mv (T 6), none⟩,
 ⟨(some 23), .bin .mul (C (8)) (T 22), none⟩,
 ⟨(some 24), .bin .shr (T 21) (T 23), none⟩,
 ⟨(some 25), .ci .u8 (T 24), none⟩,
 ⟨(some 26), .iaddr none (T 19) (T 20), none⟩,
 ⟨none, .store none (T 26) (T 25), none⟩])))
 (.reg [⟨(some 27), .bin .add (T 16) (C (1)), none⟩,
 ⟨(some 16), .mv (T 27), none⟩])))))))
 (.seq (.reg [⟨(some 28), .mv (T 5), none⟩,
 ⟨(some 4), .mv (T 28), none⟩])
 .ret)))))
theorem e_codec_Le : slimC Tryz.prog 29 (Tryz.f68.body.getD .skip) = s_codec_Le := by kernel_rfl
theorem r_codec_Le : slimRes Tryz.prog Tryz.f68 = some [.tmp 4] := by kernel_rfl
def s_codec_GetLe : SCode :=
 (.seq (.reg [⟨(some 6), .mv (.const (.int .u64 (0))), none⟩,
 ⟨(some 7), .mv (.const (.bool false)), none⟩])
 (.seq (.seq (.reg [⟨(some 10), .mv (T 0), none⟩,
 ⟨(some 11), .mv (T 1), none⟩,
 ⟨(some 12), .mv (T 2), none⟩,
 ⟨(some 13), .call true n_codec_stands [(T 10), (T 11), (T 12)], none⟩,
 ⟨(some 14), .un .not (T 13), none⟩])
 (.cond (T 14)
 (.seq (.reg [⟨(some 6), .mv (.const (.int .u64 (0))), none⟩,
 ⟨(some 7), .mv (.const (.bool false)), none⟩])
 .ret)
 .skip))
 (.seq (.reg [⟨(some 8), .mv (.const (.int .u64 (0))), none⟩])
 (.seq (.seq (.reg [⟨(some 15), .mv (T 2), none⟩,
 ⟨(some 16), .mv (C (0)), none⟩])
 (.block 0
 (.loop
 (.seq (.reg [⟨(some 17), .bin .lss (T 16) (T 15), none⟩])
 (.seq (.cond (T 17)
 .skip
 (.exit 0))
 (.seq (.block 1
 (.seq (.reg [⟨(some 18), .mv (T 16), none⟩,
 ⟨(some 9), .mv (T 18), none⟩])
 (.reg [⟨(some 19), .mv (T 8), none⟩,
 ⟨(some 20), .mv (T 0), none⟩,
 ⟨(some 21), .mv (T 1), none⟩,
 ⟨(some 22), .mv (T 9), none⟩,
 ⟨(some 23), .bin .add (T 21) (T 22), none⟩,
 ⟨(some 24), .iaddr none (T 20) (T 23), none⟩,
 ⟨(some 25), .load none (T 24), none⟩,
 ⟨(some 26), .ci .u64 (T 25), none⟩,
 ⟨(some 27), .mv (T 9), none⟩,
 ⟨(some 28), .bin .mul (C (8)) (T 27), none⟩,
 ⟨(some 29), .bin .shl (T 26) (T 28), none⟩,
 ⟨(some 30), .bin .or (T 19) (T 29), none⟩,
 ⟨(some 8), .mv (T 30), none⟩])))
 (.reg [⟨(some 31), .bin .add (T 16) (C (1)), none⟩,
 ⟨(some 16), .mv (T 31), none⟩])))))))
 (.seq (.reg [⟨(some 32), .mv (T 8), none⟩,
 ⟨(some 6), .mv (T 32), none⟩,
 ⟨(some 7), .mv (.const (.bool true)), none⟩])
 .ret)))))
theorem e_codec_GetLe : slimC Tryz.prog 33 (Tryz.f115.body.getD .skip) = s_codec_GetLe := by kernel_rfl
theorem r_codec_GetLe : slimRes Tryz.prog Tryz.f115 = some [.tmp 6, .tmp 7] := by kernel_rfl
def s_codec_stands : SCode :=
 (.seq (.reg [⟨(some 6), .mv (.const (.bool false)), none⟩])
 (.seq (.seq (.reg [⟨(some 7), .mv (T 2), none⟩,
 ⟨(some 8), .bin .lss (T 7) (C (1)), none⟩,
 ⟨(some 9), .mv (T 8), none⟩,
 ⟨(some 10), .mv (T 2), (some (9, false))⟩,
 ⟨(some 11), .bin .gtr (T 10) (C (8)), (some (9, false))⟩,
 ⟨(some 12), .pick (T 9) (.const (.bool true)) (T 11), none⟩,
 ⟨(some 13), .mv (T 12), none⟩,
 ⟨(some 14), .mv (T 1), (some (13, false))⟩,
 ⟨(some 15), .bin .lss (T 14) (C (0)), (some (13, false))⟩,
 ⟨(some 16), .pick (T 13) (.const (.bool true)) (T 15), none⟩])
 (.cond (T 16)
 (.seq (.reg [⟨(some 6), .mv (.const (.bool false)), none⟩])
 .ret)
 .skip))
 (.seq (.reg [⟨(some 17), .mv (T 1), none⟩,
 ⟨(some 18), .mv (T 0), none⟩,
 ⟨(some 19), .len false (T 18), none⟩,
 ⟨(some 20), .mv (T 2), none⟩,
 ⟨(some 21), .bin .sub (T 19) (T 20), none⟩,
 ⟨(some 22), .bin .leq (T 17) (T 21), none⟩,
 ⟨(some 6), .mv (T 22), none⟩])
 .ret)))
theorem e_codec_stands : slimC Tryz.prog 23 (Tryz.f143.body.getD .skip) = s_codec_stands := by kernel_rfl
theorem r_codec_stands : slimRes Tryz.prog Tryz.f143 = some [.tmp 6] := by kernel_rfl
def s_digest_Crc : SCode :=
 (.seq (.reg [⟨(some 2), .mv (.const (.int .u32 (0))), none⟩])
 (.seq (.reg [⟨(some 3), .mv (T 0), none⟩,
 ⟨(some 4), .call true n_digest_CrcMore [(.const (.int .u32 (0))), (T 3)], none⟩,
 ⟨(some 2), .mv (T 4), none⟩])
 .ret))
theorem e_digest_Crc : slimC Tryz.prog 5 (Tryz.f69.body.getD .skip) = s_digest_Crc := by kernel_rfl
theorem r_digest_Crc : slimRes Tryz.prog Tryz.f69 = some [.tmp 2] := by kernel_rfl
def s_digest_CrcMore : SCode :=
 (.seq (.reg [⟨(some 4), .mv (.const (.int .u32 (0))), none⟩])
 (.seq (.reg [⟨(some 9), .mv (T 0), none⟩,
 ⟨(some 10), .un .xor (T 9), none⟩,
 ⟨(some 5), .mv (T 10), none⟩])
 (.seq (.seq (.reg [⟨(some 11), .mv (T 1), none⟩,
 ⟨(some 12), .len false (T 11), none⟩,
 ⟨(some 13), .mv (C (0)), none⟩])
 (.block 0
 (.loop
 (.seq (.reg [⟨(some 14), .bin .lss (T 13) (T 12), none⟩])
 (.seq (.cond (T 14)
 .skip
 (.exit 0))
 (.seq (.block 1
 (.seq (.reg [⟨(some 15), .iaddr none (T 11) (T 13), none⟩,
 ⟨(some 16), .load none (T 15), none⟩,
 ⟨(some 7), .mv (T 16), none⟩])
 (.seq (.reg [⟨(some 17), .mv (T 5), none⟩,
 ⟨(some 18), .mv (T 7), none⟩,
 ⟨(some 19), .ci .u32 (T 18), none⟩,
 ⟨(some 20), .bin .xor (T 17) (T 19), none⟩,
 ⟨(some 5), .mv (T 20), none⟩])
 (.seq (.reg [⟨(some 21), .mv (C (0)), none⟩])
 (.block 2
 (.loop
 (.seq (.reg [⟨(some 22), .bin .lss (T 21) (C (8)), none⟩])
 (.seq (.cond (T 22)
 .skip
 (.exit 2))
 (.seq (.block 3
 (.seq (.reg [⟨(some 23), .mv (T 5), none⟩,
 ⟨(some 24), .bin .and (T 23) (.const (.int .u32 (1))), none⟩,
 ⟨(some 8), .mv (T 24), none⟩])
 (.seq (.reg [⟨(some 25), .mv (T 5), none⟩,
 ⟨(some 26), .bin .shr (T 25) (.const (.int .u64 (1))), none⟩,
 ⟨(some 5), .mv (T 26), none⟩])
 (.seq (.reg [⟨(some 27), .mv (T 8), none⟩,
 ⟨(some 28), .bin .neq (T 27) (.const (.int .u32 (0))), none⟩])
 (.cond (T 28)
 (.reg [⟨(some 29), .mv (T 5), none⟩,
 ⟨(some 30), .bin .xor (T 29) (.const (.int .u32 (3988292384))), none⟩,
 ⟨(some 5), .mv (T 30), none⟩])
 .skip)))))
 (.reg [⟨(some 31), .bin .add (T 21) (C (1)), none⟩,
 ⟨(some 21), .mv (T 31), none⟩]))))))))))
 (.reg [⟨(some 32), .bin .add (T 13) (C (1)), none⟩,
 ⟨(some 13), .mv (T 32), none⟩])))))))
 (.seq (.reg [⟨(some 33), .mv (T 5), none⟩,
 ⟨(some 34), .un .xor (T 33), none⟩,
 ⟨(some 4), .mv (T 34), none⟩])
 .ret))))
theorem e_digest_CrcMore : slimC Tryz.prog 35 (Tryz.f113.body.getD .skip) = s_digest_CrcMore := by kernel_rfl
theorem r_digest_CrcMore : slimRes Tryz.prog Tryz.f113 = some [.tmp 4] := by kernel_rfl
def s_deflate_Deflate : SCode :=
 (.seq (.reg [⟨(some 4), .mv (.const (.slice none 0 0)), none⟩,
 ⟨(some 5), .mv (C (0)), none⟩])
 (.seq (.seq (.reg [⟨(some 7), .mv (T 1), none⟩,
 ⟨(some 8), .bin .lss (T 7) (C (0)), none⟩,
 ⟨(some 9), .mv (T 8), none⟩,
 ⟨(some 10), .mv (T 1), (some (9, false))⟩,
 ⟨(some 11), .bin .gtr (T 10) (C (2)), (some (9, false))⟩,
 ⟨(some 12), .pick (T 9) (.const (.bool true)) (T 11), none⟩])
 (.cond (T 12)
 (.seq (.reg [⟨(some 4), .mv (.const (.slice none 0 0)), none⟩,
 ⟨(some 5), .mv (C (1)), none⟩])
 .ret)
 .skip))
 (.seq (.seq (.reg [⟨(some 13), .mv (T 0), none⟩,
 ⟨(some 14), .len false (T 13), none⟩,
 ⟨(some 15), .bin .gtr (T 14) (C (16777216)), none⟩])
 (.cond (T 15)
 (.seq (.reg [⟨(some 4), .mv (.const (.slice none 0 0)), none⟩,
 ⟨(some 5), .mv (C (4)), none⟩])
 .ret)
 .skip))
 (.seq (.reg [⟨(some 16), .call true n_huff_NewWriter [], none⟩,
 ⟨(some 17), .build [(.pointer none)] [(0, 1, (T 16))], none⟩,
 ⟨(some 6), .alloc [(.pointer none)], none⟩,
 ⟨none, .store (some 1) (T 6) (T 17), none⟩])
 (.seq (.seq (.reg [⟨(some 18), .mv (T 1), none⟩])
 (.block 0
 (.seq (.reg [⟨(some 20), .bin .eql (T 18) (C (0)), none⟩,
 ⟨(some 19), .mv (T 20), none⟩])
 (.cond (T 19)
 (.reg [⟨(some 21), .load (some 1) (T 6), none⟩,
 ⟨(some 22), .mv (T 0), none⟩,
 ⟨(some 23), .call true n_deflate_packer_stored [(T 21), (T 22)], none⟩])
 (.seq (.reg [⟨(some 25), .bin .eql (T 18) (C (1)), none⟩,
 ⟨(some 24), .mv (T 25), none⟩])
 (.cond (T 24)
 (.reg3 [⟨(some 26), .load (some 1) (T 6), none⟩,
 ⟨(some 27), .mv (T 0), none⟩,
 ⟨(some 28), .call true n_deflate_piecesOf [(T 27)], none⟩]
 [((some 1), (T 6), 26)]
 [⟨(some 29), .call true n_deflate_packer_fixed [(T 26), (T 28)], none⟩])
 (.seq (.reg [⟨(some 31), .bin .eql (T 18) (C (2)), none⟩,
 ⟨(some 30), .mv (T 31), none⟩])
 (.cond (T 30)
 (.reg3 [⟨(some 32), .load (some 1) (T 6), none⟩,
 ⟨(some 33), .mv (T 0), none⟩,
 ⟨(some 34), .call true n_deflate_piecesOf [(T 33)], none⟩]
 [((some 1), (T 6), 32)]
 [⟨(some 35), .call true n_deflate_packer_dynamic [(T 32), (T 34)], none⟩])
 .skip))))))))
 (.seq (.reg [⟨(some 36), .faddr 0 (T 6), none⟩,
 ⟨(some 37), .load none (T 36), none⟩,
 ⟨(some 38), .call true n_huff_Writer_Bytes [(T 37)], none⟩,
 ⟨(some 4), .mv (T 38), none⟩,
 ⟨(some 5), .mv (C (0)), none⟩])
 .ret))))))
theorem e_deflate_Deflate : slimC Tryz.prog 39 (Tryz.f9.body.getD .skip) = s_deflate_Deflate := by kernel_rfl
theorem r_deflate_Deflate : slimRes Tryz.prog Tryz.f9 = some [.tmp 4, .tmp 5] := by kernel_rfl
def s_inflate_Inflate : SCode :=
 (.seq (.reg [⟨(some 4), .mv (.const (.slice none 0 0)), none⟩,
 ⟨(some 5), .mv (C (0)), none⟩,
 ⟨(some 6), .mv (C (0)), none⟩])
 (.seq (.seq (.reg [⟨(some 9), .mv (T 1), none⟩,
 ⟨(some 10), .bin .lss (T 9) (C (0)), none⟩,
 ⟨(some 11), .mv (T 10), none⟩,
 ⟨(some 12), .mv (T 1), (some (11, false))⟩,
 ⟨(some 13), .bin .gtr (T 12) (C (16777216)), (some (11, false))⟩,
 ⟨(some 14), .pick (T 11) (.const (.bool true)) (T 13), none⟩])
 (.cond (T 14)
 (.seq (.reg [⟨(some 4), .mv (.const (.slice none 0 0)), none⟩,
 ⟨(some 5), .mv (C (0)), none⟩,
 ⟨(some 6), .mv (C (1)), none⟩])
 .ret)
 .skip))
 (.seq (.reg [⟨(some 15), .mv (T 0), none⟩,
 ⟨(some 16), .call true n_huff_NewReader [(T 15)], none⟩,
 ⟨(some 17), .mv (T 1), none⟩,
 ⟨(some 18), .build [(.pointer none), (.slice none 0 0), (.int .i64 (0)), (.pointer none)] [(0, 1, (T 16)), (2, 1, (T 17))], none⟩,
 ⟨(some 19), .box (T 18), none⟩,
 ⟨(some 7), .mv (T 19), none⟩])
 (.seq (.seq (.reg [⟨(some 8), .mv (.const (.bool false)), none⟩])
 (.block 0
 (.loop
 (.seq (.seq (.reg [⟨(some 20), .mv (T 8), none⟩,
 ⟨(some 21), .un .not (T 20), none⟩])
 (.cond (T 21)
 .skip
 (.exit 0)))
 (.block 1
 (.seq (.reg [⟨(some 23), .mv (T 7), none⟩,
 ⟨(some 24), .call true n_inflate_unpacker_block [(T 23)], none⟩,
 ⟨(some 22), .mv (T 24), none⟩,
 ⟨(some 25), .ext (T 22) 0, none⟩,
 ⟨(some 26), .ext (T 22) 1, none⟩,
 ⟨(some 8), .mv (T 25), none⟩,
 ⟨(some 6), .mv (T 26), none⟩])
 (.seq (.reg [⟨(some 27), .mv (T 6), none⟩,
 ⟨(some 28), .bin .neq (T 27) (C (0)), none⟩])
 (.cond (T 28)
 (.seq (.reg [⟨(some 29), .mv (T 6), none⟩,
 ⟨(some 4), .mv (.const (.slice none 0 0)), none⟩,
 ⟨(some 5), .mv (C (0)), none⟩,
 ⟨(some 6), .mv (T 29), none⟩])
 .ret)
 .skip))))))))
 (.seq (.reg [⟨(some 30), .mv (T 7), none⟩,
 ⟨(some 31), .nilc (T 30), none⟩,
 ⟨(some 32), .faddr 0 (T 31), none⟩,
 ⟨(some 33), .load none (T 32), none⟩,
 ⟨(some 34), .call true n_huff_Reader_At [(T 33)], none⟩,
 ⟨(some 35), .bin .add (T 34) (C (8)), none⟩,
 ⟨(some 36), .bin .sub (T 35) (C (1)), none⟩,
 ⟨(some 37), .bin .quo (T 36) (C (8)), none⟩,
 ⟨(some 5), .mv (T 37), none⟩])
 (.seq (.reg [⟨(some 38), .mv (T 7), none⟩,
 ⟨(some 39), .nilc (T 38), none⟩,
 ⟨(some 40), .faddr 1 (T 39), none⟩,
 ⟨(some 41), .load none (T 40), none⟩,
 ⟨(some 42), .mv (T 7), none⟩,
 ⟨(some 43), .nilc (T 42), none⟩,
 ⟨(some 44), .faddr 1 (T 43), none⟩,
 ⟨(some 45), .load none (T 44), none⟩,
 ⟨(some 46), .len false (T 45), none⟩,
 ⟨(some 47), .mv (T 7), none⟩,
 ⟨(some 48), .nilc (T 47), none⟩,
 ⟨(some 49), .faddr 1 (T 48), none⟩,
 ⟨(some 50), .load none (T 49), none⟩,
 ⟨(some 51), .len false (T 50), none⟩,
 ⟨(some 52), .sl3 none (T 41) none (T 46) (T 51), none⟩,
 ⟨(some 53), .mv (T 5), none⟩,
 ⟨(some 4), .mv (T 52), none⟩,
 ⟨(some 5), .mv (T 53), none⟩,
 ⟨(some 6), .mv (C (0)), none⟩])
 .ret))))))
theorem e_inflate_Inflate : slimC Tryz.prog 54 (Tryz.f10.body.getD .skip) = s_inflate_Inflate := by kernel_rfl
theorem r_inflate_Inflate : slimRes Tryz.prog Tryz.f10 = some [.tmp 4, .tmp 5, .tmp 6] := by kernel_rfl
def s_huff_NewReader : SCode :=
 (.seq (.reg [⟨(some 2), .mv (.const (.pointer none)), none⟩])
 (.seq (.reg [⟨(some 3), .mv (T 0), none⟩,
 ⟨(some 4), .call true n_bytes_Clone [(T 3)], none⟩,
 ⟨(some 5), .build [(.slice none 0 0), (.int .i64 (0))] [(0, 1, (T 4))], none⟩,
 ⟨(some 6), .box (T 5), none⟩,
 ⟨(some 2), .mv (T 6), none⟩])
 .ret))
theorem e_huff_NewReader : slimC Tryz.prog 7 (Tryz.f25.body.getD .skip) = s_huff_NewReader := by kernel_rfl
theorem r_huff_NewReader : slimRes Tryz.prog Tryz.f25 = some [.tmp 2] := by kernel_rfl
def s_inflate_unpacker_block : SCode :=
 (.seq (.reg [⟨(some 2), .mv (.const (.bool false)), none⟩,
 ⟨(some 3), .mv (C (0)), none⟩])
 (.seq (.reg [⟨(some 8), .mv (T 0), none⟩,
 ⟨(some 9), .nilc (T 8), none⟩,
 ⟨(some 10), .faddr 0 (T 9), none⟩,
 ⟨(some 11), .load none (T 10), none⟩,
 ⟨(some 12), .call true n_huff_Reader_Take [(T 11), (C (3))], none⟩,
 ⟨(some 7), .mv (T 12), none⟩,
 ⟨(some 13), .ext (T 7) 0, none⟩,
 ⟨(some 14), .ext (T 7) 1, none⟩,
 ⟨(some 4), .mv (T 13), none⟩,
 ⟨(some 5), .mv (T 14), none⟩])
 (.seq (.seq (.reg [⟨(some 15), .mv (T 5), none⟩,
 ⟨(some 16), .un .not (T 15), none⟩])
 (.cond (T 16)
 (.seq (.reg [⟨(some 2), .mv (.const (.bool false)), none⟩,
 ⟨(some 3), .mv (C (2)), none⟩])
 .ret)
 .skip))
 (.seq (.seq (.reg [⟨(some 17), .mv (T 4), none⟩,
 ⟨(some 18), .bin .shr (T 17) (.const (.int .u64 (1))), none⟩])
 (.block 0
 (.seq (.reg [⟨(some 20), .bin .eql (T 18) (C (0)), none⟩,
 ⟨(some 19), .mv (T 20), none⟩])
 (.cond (T 19)
 (.reg [⟨(some 21), .mv (T 0), none⟩,
 ⟨(some 22), .call true n_inflate_unpacker_stored [(T 21)], none⟩,
 ⟨(some 3), .mv (T 22), none⟩])
 (.seq (.reg [⟨(some 24), .bin .eql (T 18) (C (1)), none⟩,
 ⟨(some 23), .mv (T 24), none⟩])
 (.cond (T 23)
 (.seq (.seq (.reg [⟨(some 25), .mv (T 0), none⟩,
 ⟨(some 26), .nilc (T 25), none⟩,
 ⟨(some 27), .faddr 3 (T 26), none⟩,
 ⟨(some 28), .load none (T 27), none⟩,
 ⟨(some 29), .isnilp false (T 28), none⟩])
 (.cond (T 29)
 (.reg [⟨(some 30), .mv (T 0), none⟩,
 ⟨(some 31), .call true n_inflate_fixedCodes [], none⟩,
 ⟨(some 32), .nilc (T 30), none⟩,
 ⟨(some 33), .faddr 3 (T 32), none⟩,
 ⟨none, .store none (T 33) (T 31), none⟩])
 .skip))
 (.reg [⟨(some 34), .mv (T 0), none⟩,
 ⟨(some 35), .mv (T 0), none⟩,
 ⟨(some 36), .nilc (T 35), none⟩,
 ⟨(some 37), .faddr 3 (T 36), none⟩,
 ⟨(some 38), .load none (T 37), none⟩,
 ⟨(some 39), .call true n_inflate_unpacker_symbols [(T 34), (T 38)], none⟩,
 ⟨(some 3), .mv (T 39), none⟩]))
 (.seq (.reg [⟨(some 41), .bin .eql (T 18) (C (2)), none⟩,
 ⟨(some 40), .mv (T 41), none⟩])
 (.cond (T 40)
 (.seq (.reg [⟨(some 6), .mv (.const (.pointer none)), none⟩])
 (.seq (.reg [⟨(some 43), .mv (T 0), none⟩,
 ⟨(some 44), .call true n_inflate_unpacker_toldCodes [(T 43)], none⟩,
 ⟨(some 42), .mv (T 44), none⟩,
 ⟨(some 45), .ext (T 42) 0, none⟩,
 ⟨(some 46), .ext (T 42) 1, none⟩,
 ⟨(some 6), .mv (T 45), none⟩,
 ⟨(some 3), .mv (T 46), none⟩])
 (.seq (.reg [⟨(some 47), .mv (T 3), none⟩,
 ⟨(some 48), .bin .eql (T 47) (C (0)), none⟩])
 (.cond (T 48)
 (.reg [⟨(some 49), .mv (T 0), none⟩,
 ⟨(some 50), .mv (T 6), none⟩,
 ⟨(some 51), .call true n_inflate_unpacker_symbols [(T 49), (T 50)], none⟩,
 ⟨(some 3), .mv (T 51), none⟩])
 .skip))))
 (.reg [⟨(some 3), .mv (C (3)), none⟩])))))))))
 (.seq (.reg [⟨(some 52), .mv (T 4), none⟩,
 ⟨(some 53), .bin .and (T 52) (C (1)), none⟩,
 ⟨(some 54), .bin .eql (T 53) (C (1)), none⟩,
 ⟨(some 55), .mv (T 3), none⟩,
 ⟨(some 2), .mv (T 54), none⟩,
 ⟨(some 3), .mv (T 55), none⟩])
 .ret)))))
theorem e_inflate_unpacker_block : slimC Tryz.prog 56 (Tryz.f26.body.getD .skip) = s_inflate_unpacker_block := by kernel_rfl
theorem r_inflate_unpacker_block : slimRes Tryz.prog Tryz.f26 = some [.tmp 2, .tmp 3] := by kernel_rfl
def s_huff_Reader_At : SCode :=
 (.seq (.reg [⟨(some 2), .mv (C (0)), none⟩])
 (.seq (.reg [⟨(some 3), .mv (T 0), none⟩,
 ⟨(some 4), .nilc (T 3), none⟩,
 ⟨(some 5), .faddr 1 (T 4), none⟩,
 ⟨(some 6), .load none (T 5), none⟩,
 ⟨(some 2), .mv (T 6), none⟩])
 .ret))
theorem e_huff_Reader_At : slimC Tryz.prog 7 (Tryz.f27.body.getD .skip) = s_huff_Reader_At := by kernel_rfl
theorem r_huff_Reader_At : slimRes Tryz.prog Tryz.f27 = some [.tmp 2] := by kernel_rfl
def s_huff_Reader_Take : SCode :=
 (.seq (.reg [⟨(some 4), .mv (C (0)), none⟩,
 ⟨(some 5), .mv (.const (.bool false)), none⟩])
 (.seq (.seq (.reg [⟨(some 8), .mv (T 1), none⟩,
 ⟨(some 9), .bin .lss (T 8) (C (0)), none⟩,
 ⟨(some 10), .mv (T 9), none⟩,
 ⟨(some 11), .mv (T 1), (some (10, false))⟩,
 ⟨(some 12), .bin .gtr (T 11) (C (24)), (some (10, false))⟩,
 ⟨(some 13), .pick (T 10) (.const (.bool true)) (T 12), none⟩,
 ⟨(some 14), .mv (T 13), none⟩,
 ⟨(some 15), .mv (T 1), (some (14, false))⟩,
 ⟨(some 16), .mv (T 0), (some (14, false))⟩,
 ⟨(some 17), .call true n_huff_Reader_left [(T 16)], (some (14, false))⟩,
 ⟨(some 18), .bin .gtr (T 15) (T 17), (some (14, false))⟩,
 ⟨(some 19), .pick (T 14) (.const (.bool true)) (T 18), none⟩])
 (.cond (T 19)
 (.seq (.reg [⟨(some 4), .mv (C (0)), none⟩,
 ⟨(some 5), .mv (.const (.bool false)), none⟩])
 .ret)
 .skip))
 (.seq (.reg [⟨(some 6), .mv (C (0)), none⟩])
 (.seq (.seq (.reg [⟨(some 20), .mv (T 1), none⟩,
 ⟨(some 21), .mv (C (0)), none⟩])
 (.block 0
 (.loop
 (.seq (.reg [⟨(some 22), .bin .lss (T 21) (T 20), none⟩])
 (.seq (.cond (T 22)
 .skip
 (.exit 0))
 (.seq (.block 1
 (.seq (.reg [⟨(some 23), .mv (T 21), none⟩,
 ⟨(some 7), .mv (T 23), none⟩])
 (.reg [⟨(some 24), .mv (T 6), none⟩,
 ⟨(some 25), .mv (T 0), none⟩,
 ⟨(some 26), .call true n_huff_Reader_bit [(T 25)], none⟩,
 ⟨(some 27), .mv (T 7), none⟩,
 ⟨(some 28), .bin .shl (T 26) (T 27), none⟩,
 ⟨(some 29), .bin .or (T 24) (T 28), none⟩,
 ⟨(some 6), .mv (T 29), none⟩])))
 (.reg [⟨(some 30), .bin .add (T 21) (C (1)), none⟩,
 ⟨(some 21), .mv (T 30), none⟩])))))))
 (.seq (.reg [⟨(some 31), .mv (T 6), none⟩,
 ⟨(some 4), .mv (T 31), none⟩,
 ⟨(some 5), .mv (.const (.bool true)), none⟩])
 .ret)))))
theorem e_huff_Reader_Take : slimC Tryz.prog 32 (Tryz.f55.body.getD .skip) = s_huff_Reader_Take := by kernel_rfl
theorem r_huff_Reader_Take : slimRes Tryz.prog Tryz.f55 = some [.tmp 4, .tmp 5] := by kernel_rfl
def s_inflate_unpacker_stored : SCode :=
 (.seq (.reg [⟨(some 2), .mv (C (0)), none⟩])
 (.seq (.reg [⟨(some 7), .mv (T 0), none⟩,
 ⟨(some 8), .nilc (T 7), none⟩,
 ⟨(some 9), .faddr 0 (T 8), none⟩,
 ⟨(some 10), .load none (T 9), none⟩,
 ⟨(some 11), .call true n_huff_Reader_Align [(T 10)], none⟩])
 (.seq (.reg [⟨(some 13), .mv (T 0), none⟩,
 ⟨(some 14), .nilc (T 13), none⟩,
 ⟨(some 15), .faddr 0 (T 14), none⟩,
 ⟨(some 16), .load none (T 15), none⟩,
 ⟨(some 17), .call true n_huff_Reader_Take [(T 16), (C (16))], none⟩,
 ⟨(some 12), .mv (T 17), none⟩,
 ⟨(some 18), .ext (T 12) 0, none⟩,
 ⟨(some 19), .ext (T 12) 1, none⟩,
 ⟨(some 3), .mv (T 18), none⟩,
 ⟨(some 4), .mv (T 19), none⟩])
 (.seq (.seq (.reg [⟨(some 20), .mv (T 4), none⟩,
 ⟨(some 21), .un .not (T 20), none⟩])
 (.cond (T 21)
 (.seq (.reg [⟨(some 2), .mv (C (2)), none⟩])
 .ret)
 .skip))
 (.seq (.reg [⟨(some 23), .mv (T 0), none⟩,
 ⟨(some 24), .nilc (T 23), none⟩,
 ⟨(some 25), .faddr 0 (T 24), none⟩,
 ⟨(some 26), .load none (T 25), none⟩,
 ⟨(some 27), .call true n_huff_Reader_Take [(T 26), (C (16))], none⟩,
 ⟨(some 22), .mv (T 27), none⟩,
 ⟨(some 28), .ext (T 22) 0, none⟩,
 ⟨(some 29), .ext (T 22) 1, none⟩,
 ⟨(some 5), .mv (T 28), none⟩,
 ⟨(some 4), .mv (T 29), none⟩])
 (.seq (.seq (.reg [⟨(some 30), .mv (T 4), none⟩,
 ⟨(some 31), .un .not (T 30), none⟩])
 (.cond (T 31)
 (.seq (.reg [⟨(some 2), .mv (C (2)), none⟩])
 .ret)
 .skip))
 (.seq (.seq (.reg [⟨(some 32), .mv (T 3), none⟩,
 ⟨(some 33), .mv (T 5), none⟩,
 ⟨(some 34), .bin .add (T 32) (T 33), none⟩,
 ⟨(some 35), .bin .neq (T 34) (C (65535)), none⟩])
 (.cond (T 35)
 (.seq (.reg [⟨(some 2), .mv (C (3)), none⟩])
 .ret)
 .skip))
 (.seq (.reg [⟨(some 37), .mv (T 0), none⟩,
 ⟨(some 38), .nilc (T 37), none⟩,
 ⟨(some 39), .faddr 0 (T 38), none⟩,
 ⟨(some 40), .load none (T 39), none⟩,
 ⟨(some 41), .mv (T 3), none⟩,
 ⟨(some 42), .call true n_huff_Reader_Bytes [(T 40), (T 41)], none⟩,
 ⟨(some 36), .mv (T 42), none⟩,
 ⟨(some 43), .ext (T 36) 0, none⟩,
 ⟨(some 44), .ext (T 36) 1, none⟩,
 ⟨(some 6), .mv (T 43), none⟩,
 ⟨(some 4), .mv (T 44), none⟩])
 (.seq (.seq (.reg [⟨(some 45), .mv (T 4), none⟩,
 ⟨(some 46), .un .not (T 45), none⟩])
 (.cond (T 46)
 (.seq (.reg [⟨(some 2), .mv (C (2)), none⟩])
 .ret)
 .skip))
 (.seq (.seq (.reg [⟨(some 47), .mv (T 3), none⟩,
 ⟨(some 48), .mv (T 0), none⟩,
 ⟨(some 49), .call true n_inflate_unpacker_room [(T 48)], none⟩,
 ⟨(some 50), .bin .gtr (T 47) (T 49), none⟩])
 (.cond (T 50)
 (.seq (.reg [⟨(some 2), .mv (C (4)), none⟩])
 .ret)
 .skip))
 (.seq (.reg [⟨(some 51), .mv (T 0), none⟩,
 ⟨(some 52), .mv (T 0), none⟩,
 ⟨(some 53), .nilc (T 52), none⟩,
 ⟨(some 54), .faddr 1 (T 53), none⟩,
 ⟨(some 55), .load none (T 54), none⟩,
 ⟨(some 56), .mv (T 6), none⟩,
 ⟨(some 57), .app none 1 (T 55) (T 56), none⟩,
 ⟨(some 58), .nilc (T 51), none⟩,
 ⟨(some 59), .faddr 1 (T 58), none⟩,
 ⟨none, .store none (T 59) (T 57), none⟩])
 (.seq (.reg [⟨(some 2), .mv (C (0)), none⟩])
 .ret))))))))))))
theorem e_inflate_unpacker_stored : slimC Tryz.prog 60 (Tryz.f56.body.getD .skip) = s_inflate_unpacker_stored := by kernel_rfl
theorem r_inflate_unpacker_stored : slimRes Tryz.prog Tryz.f56 = some [.tmp 2] := by kernel_rfl
def s_inflate_fixedCodes : SCode :=
 (.seq (.reg [⟨(some 0), .mv (.const (.pointer none)), none⟩])
 (.seq (.reg [⟨(some 6), .bsl none [(C (8))], none⟩,
 ⟨(some 7), .call true n_slices_Repeatintint [(T 6), (C (144))], none⟩,
 ⟨(some 8), .bsl none [(C (9))], none⟩,
 ⟨(some 9), .call true n_slices_Repeatintint [(T 8), (C (112))], none⟩,
 ⟨(some 10), .bsl none [(C (7))], none⟩,
 ⟨(some 11), .call true n_slices_Repeatintint [(T 10), (C (24))], none⟩,
 ⟨(some 12), .bsl none [(C (8))], none⟩,
 ⟨(some 13), .call true n_slices_Repeatintint [(T 12), (C (8))], none⟩,
 ⟨(some 14), .bslice none [(T 7), (T 9), (T 11), (T 13)], none⟩,
 ⟨(some 15), .call true n_slices_Concatintint [(T 14)], none⟩,
 ⟨(some 16), .call true n_huff_NewTree [(T 15)], none⟩,
 ⟨(some 5), .mv (T 16), none⟩,
 ⟨(some 17), .ext (T 5) 0, none⟩,
 ⟨(some 18), .ext (T 5) 1, none⟩,
 ⟨(some 1), .mv (T 17), none⟩,
 ⟨(some 2), .mv (T 18), none⟩])
 (.seq (.reg [⟨(some 20), .bsl none [(C (5))], none⟩,
 ⟨(some 21), .call true n_slices_Repeatintint [(T 20), (C (32))], none⟩,
 ⟨(some 22), .call true n_huff_NewTree [(T 21)], none⟩,
 ⟨(some 19), .mv (T 22), none⟩,
 ⟨(some 23), .ext (T 19) 0, none⟩,
 ⟨(some 24), .ext (T 19) 1, none⟩,
 ⟨(some 3), .mv (T 23), none⟩,
 ⟨(some 4), .mv (T 24), none⟩])
 (.seq (.reg [⟨(some 25), .mv (T 1), none⟩,
 ⟨(some 26), .mv (T 3), none⟩,
 ⟨(some 27), .build [(.pointer none), (.pointer none)] [(0, 1, (T 25)), (1, 1, (T 26))], none⟩,
 ⟨(some 28), .box (T 27), none⟩,
 ⟨(some 0), .mv (T 28), none⟩])
 .ret))))
theorem e_inflate_fixedCodes : slimC Tryz.prog 29 (Tryz.f57.body.getD .skip) = s_inflate_fixedCodes := by kernel_rfl
theorem r_inflate_fixedCodes : slimRes Tryz.prog Tryz.f57 = some [.tmp 0] := by kernel_rfl
def s_inflate_unpacker_symbols : SCode :=
 (.seq (.reg [⟨(some 4), .mv (C (0)), none⟩])
 (.block 0
 (.loop
 (.block 1
 (.seq (.reg [⟨(some 8), .mv (T 1), none⟩,
 ⟨(some 9), .nilc (T 8), none⟩,
 ⟨(some 10), .faddr 0 (T 9), none⟩,
 ⟨(some 11), .load none (T 10), none⟩,
 ⟨(some 12), .mv (T 0), none⟩,
 ⟨(some 13), .nilc (T 12), none⟩,
 ⟨(some 14), .faddr 0 (T 13), none⟩,
 ⟨(some 15), .load none (T 14), none⟩,
 ⟨(some 16), .call true n_huff_Tree_Next [(T 11), (T 15)], none⟩,
 ⟨(some 7), .mv (T 16), none⟩,
 ⟨(some 17), .ext (T 7) 0, none⟩,
 ⟨(some 18), .ext (T 7) 1, none⟩,
 ⟨(some 5), .mv (T 17), none⟩,
 ⟨(some 6), .mv (T 18), none⟩])
 (.seq (.block 2
 (.seq (.reg [⟨(some 29), .mv (T 6), none⟩,
 ⟨(some 30), .bin .neq (T 29) (C (0)), none⟩,
 ⟨(some 28), .mv (T 30), none⟩])
 (.cond (T 28)
 (.seq (.reg [⟨(some 31), .mv (T 6), none⟩,
 ⟨(some 4), .mv (T 31), none⟩])
 .ret)
 (.seq (.reg [⟨(some 33), .mv (T 5), none⟩,
 ⟨(some 34), .bin .lss (T 33) (C (256)), none⟩,
 ⟨(some 32), .mv (T 34), none⟩])
 (.cond (T 32)
 (.reg [⟨(some 35), .mv (T 0), none⟩,
 ⟨(some 36), .mv (T 5), none⟩,
 ⟨(some 37), .ci .u8 (T 36), none⟩,
 ⟨(some 38), .call true n_inflate_unpacker_literal [(T 35), (T 37)], none⟩,
 ⟨(some 6), .mv (T 38), none⟩])
 (.seq (.reg [⟨(some 40), .mv (T 5), none⟩,
 ⟨(some 41), .bin .eql (T 40) (C (256)), none⟩,
 ⟨(some 39), .mv (T 41), none⟩])
 (.cond (T 39)
 (.seq (.reg [⟨(some 4), .mv (C (0)), none⟩])
 .ret)
 (.reg [⟨(some 19), .mv (T 0), none⟩,
 ⟨(some 20), .mv (T 5), none⟩,
 ⟨(some 21), .bin .sub (T 20) (C (256)), none⟩,
 ⟨(some 22), .bin .sub (T 21) (C (1)), none⟩,
 ⟨(some 23), .mv (T 1), none⟩,
 ⟨(some 24), .nilc (T 23), none⟩,
 ⟨(some 25), .faddr 1 (T 24), none⟩,
 ⟨(some 26), .load none (T 25), none⟩,
 ⟨(some 27), .call true n_inflate_unpacker_run [(T 19), (T 22), (T 26)], none⟩,
 ⟨(some 6), .mv (T 27), none⟩]))))))))
 (.seq (.reg [⟨(some 42), .mv (T 6), none⟩,
 ⟨(some 43), .bin .neq (T 42) (C (0)), none⟩])
 (.cond (T 43)
 (.seq (.reg [⟨(some 44), .mv (T 6), none⟩,
 ⟨(some 4), .mv (T 44), none⟩])
 .ret)
 .skip))))))))
theorem e_inflate_unpacker_symbols : slimC Tryz.prog 45 (Tryz.f58.body.getD .skip) = s_inflate_unpacker_symbols := by kernel_rfl
theorem r_inflate_unpacker_symbols : slimRes Tryz.prog Tryz.f58 = some [.tmp 4] := by kernel_rfl
def s_inflate_unpacker_toldCodes : SCode :=
 (.seq (.reg [⟨(some 2), .mv (.const (.pointer none)), none⟩,
 ⟨(some 3), .mv (C (0)), none⟩])
 (.seq (.reg [⟨(some 12), .mv (T 0), none⟩,
 ⟨(some 13), .nilc (T 12), none⟩,
 ⟨(some 14), .faddr 0 (T 13), none⟩,
 ⟨(some 15), .load none (T 14), none⟩,
 ⟨(some 16), .call true n_huff_Reader_Take [(T 15), (C (14))], none⟩,
 ⟨(some 11), .mv (T 16), none⟩,
 ⟨(some 17), .ext (T 11) 0, none⟩,
 ⟨(some 18), .ext (T 11) 1, none⟩,
 ⟨(some 4), .mv (T 17), none⟩,
 ⟨(some 5), .mv (T 18), none⟩])
 (.seq (.seq (.reg [⟨(some 19), .mv (T 5), none⟩,
 ⟨(some 20), .un .not (T 19), none⟩])
 (.cond (T 20)
 (.seq (.reg [⟨(some 2), .mv (.const (.pointer none)), none⟩,
 ⟨(some 3), .mv (C (2)), none⟩])
 .ret)
 .skip))
 (.seq (.reg [⟨(some 21), .mv (T 4), none⟩,
 ⟨(some 22), .bin .and (T 21) (C (31)), none⟩,
 ⟨(some 23), .bin .add (T 22) (C (257)), none⟩,
 ⟨(some 24), .mv (T 4), none⟩,
 ⟨(some 25), .bin .shr (T 24) (.const (.int .u64 (5))), none⟩,
 ⟨(some 26), .bin .and (T 25) (C (31)), none⟩,
 ⟨(some 27), .bin .add (T 26) (C (1)), none⟩,
 ⟨(some 6), .mv (T 23), none⟩,
 ⟨(some 7), .mv (T 27), none⟩])
 (.seq (.seq (.reg [⟨(some 28), .mv (T 6), none⟩,
 ⟨(some 29), .bin .gtr (T 28) (C (286)), none⟩,
 ⟨(some 30), .mv (T 29), none⟩,
 ⟨(some 31), .mv (T 7), (some (30, false))⟩,
 ⟨(some 32), .bin .gtr (T 31) (C (30)), (some (30, false))⟩,
 ⟨(some 33), .pick (T 30) (.const (.bool true)) (T 32), none⟩])
 (.cond (T 33)
 (.seq (.reg [⟨(some 2), .mv (.const (.pointer none)), none⟩,
 ⟨(some 3), .mv (C (3)), none⟩])
 .ret)
 .skip))
 (.seq (.reg [⟨(some 35), .mv (T 0), none⟩,
 ⟨(some 36), .mv (T 4), none⟩,
 ⟨(some 37), .bin .shr (T 36) (.const (.int .u64 (10))), none⟩,
 ⟨(some 38), .bin .add (T 37) (C (4)), none⟩,
 ⟨(some 39), .call true n_inflate_unpacker_teller [(T 35), (T 38)], none⟩,
 ⟨(some 34), .mv (T 39), none⟩,
 ⟨(some 40), .ext (T 34) 0, none⟩,
 ⟨(some 41), .ext (T 34) 1, none⟩,
 ⟨(some 8), .mv (T 40), none⟩,
 ⟨(some 9), .mv (T 41), none⟩])
 (.seq (.seq (.reg [⟨(some 42), .mv (T 9), none⟩,
 ⟨(some 43), .bin .neq (T 42) (C (0)), none⟩])
 (.cond (T 43)
 (.seq (.reg [⟨(some 44), .mv (T 9), none⟩,
 ⟨(some 2), .mv (.const (.pointer none)), none⟩,
 ⟨(some 3), .mv (T 44), none⟩])
 .ret)
 .skip))
 (.seq (.reg [⟨(some 46), .mv (T 0), none⟩,
 ⟨(some 47), .mv (T 8), none⟩,
 ⟨(some 48), .mv (T 6), none⟩,
 ⟨(some 49), .mv (T 7), none⟩,
 ⟨(some 50), .bin .add (T 48) (T 49), none⟩,
 ⟨(some 51), .call true n_inflate_unpacker_lengths [(T 46), (T 47), (T 50)], none⟩,
 ⟨(some 45), .mv (T 51), none⟩,
 ⟨(some 52), .ext (T 45) 0, none⟩,
 ⟨(some 53), .ext (T 45) 1, none⟩,
 ⟨(some 10), .mv (T 52), none⟩,
 ⟨(some 9), .mv (T 53), none⟩])
 (.seq (.seq (.reg [⟨(some 54), .mv (T 9), none⟩,
 ⟨(some 55), .bin .neq (T 54) (C (0)), none⟩])
 (.cond (T 55)
 (.seq (.reg [⟨(some 56), .mv (T 9), none⟩,
 ⟨(some 2), .mv (.const (.pointer none)), none⟩,
 ⟨(some 3), .mv (T 56), none⟩])
 .ret)
 .skip))
 (.seq (.reg [⟨(some 57), .mv (T 10), none⟩,
 ⟨(some 58), .mv (T 6), none⟩,
 ⟨(some 59), .sl none (T 57) none (some (T 58)), none⟩,
 ⟨(some 60), .mv (T 10), none⟩,
 ⟨(some 61), .mv (T 6), none⟩,
 ⟨(some 62), .sl none (T 60) (some (T 61)) none, none⟩,
 ⟨(some 63), .call true n_inflate_codesOf [(T 59), (T 62)], none⟩,
 ⟨(some 64), .ext (T 63) 0, none⟩,
 ⟨(some 65), .ext (T 63) 1, none⟩,
 ⟨(some 2), .mv (T 64), none⟩,
 ⟨(some 3), .mv (T 65), none⟩])
 .ret))))))))))
theorem e_inflate_unpacker_toldCodes : slimC Tryz.prog 66 (Tryz.f59.body.getD .skip) = s_inflate_unpacker_toldCodes := by kernel_rfl
theorem r_inflate_unpacker_toldCodes : slimRes Tryz.prog Tryz.f59 = some [.tmp 2, .tmp 3] := by kernel_rfl
def s_huff_Reader_left : SCode :=
 (.seq (.reg [⟨(some 2), .mv (C (0)), none⟩])
 (.seq (.reg [⟨(some 3), .mv (T 0), none⟩,
 ⟨(some 4), .nilc (T 3), none⟩,
 ⟨(some 5), .faddr 0 (T 4), none⟩,
 ⟨(some 6), .load none (T 5), none⟩,
 ⟨(some 7), .len false (T 6), none⟩,
 ⟨(some 8), .bin .mul (T 7) (C (8)), none⟩,
 ⟨(some 9), .mv (T 0), none⟩,
 ⟨(some 10), .nilc (T 9), none⟩,
 ⟨(some 11), .faddr 1 (T 10), none⟩,
 ⟨(some 12), .load none (T 11), none⟩,
 ⟨(some 13), .bin .sub (T 8) (T 12), none⟩,
 ⟨(some 2), .mv (T 13), none⟩])
 .ret))
theorem e_huff_Reader_left : slimC Tryz.prog 14 (Tryz.f96.body.getD .skip) = s_huff_Reader_left := by kernel_rfl
theorem r_huff_Reader_left : slimRes Tryz.prog Tryz.f96 = some [.tmp 2] := by kernel_rfl
def s_huff_Reader_bit : SCode :=
 (.seq (.reg [⟨(some 2), .mv (C (0)), none⟩])
 (.seq (.reg [⟨(some 4), .mv (T 0), none⟩,
 ⟨(some 5), .nilc (T 4), none⟩,
 ⟨(some 6), .faddr 0 (T 5), none⟩,
 ⟨(some 7), .load none (T 6), none⟩,
 ⟨(some 8), .mv (T 0), none⟩,
 ⟨(some 9), .nilc (T 8), none⟩,
 ⟨(some 10), .faddr 1 (T 9), none⟩,
 ⟨(some 11), .load none (T 10), none⟩,
 ⟨(some 12), .bin .quo (T 11) (C (8)), none⟩,
 ⟨(some 13), .iaddr none (T 7) (T 12), none⟩,
 ⟨(some 14), .load none (T 13), none⟩,
 ⟨(some 15), .ci .i64 (T 14), none⟩,
 ⟨(some 16), .mv (T 0), none⟩,
 ⟨(some 17), .nilc (T 16), none⟩,
 ⟨(some 18), .faddr 1 (T 17), none⟩,
 ⟨(some 19), .load none (T 18), none⟩,
 ⟨(some 20), .bin .rem (T 19) (C (8)), none⟩,
 ⟨(some 21), .bin .shr (T 15) (T 20), none⟩,
 ⟨(some 22), .bin .and (T 21) (C (1)), none⟩,
 ⟨(some 3), .mv (T 22), none⟩])
 (.seq (.reg [⟨(some 23), .mv (T 0), none⟩,
 ⟨(some 24), .nilc (T 23), none⟩,
 ⟨(some 25), .faddr 1 (T 24), none⟩,
 ⟨(some 26), .load none (T 25), none⟩,
 ⟨(some 27), .bin .add (T 26) (C (1)), none⟩,
 ⟨(some 28), .nilc (T 23), none⟩,
 ⟨(some 29), .faddr 1 (T 28), none⟩,
 ⟨none, .store none (T 29) (T 27), none⟩])
 (.seq (.reg [⟨(some 30), .mv (T 3), none⟩,
 ⟨(some 2), .mv (T 30), none⟩])
 .ret))))
theorem e_huff_Reader_bit : slimC Tryz.prog 31 (Tryz.f97.body.getD .skip) = s_huff_Reader_bit := by kernel_rfl
theorem r_huff_Reader_bit : slimRes Tryz.prog Tryz.f97 = some [.tmp 2] := by kernel_rfl
def s_huff_Reader_Align : SCode :=
 (.reg [⟨(some 2), .mv (T 0), none⟩,
 ⟨(some 3), .mv (T 0), none⟩,
 ⟨(some 4), .nilc (T 3), none⟩,
 ⟨(some 5), .faddr 1 (T 4), none⟩,
 ⟨(some 6), .load none (T 5), none⟩,
 ⟨(some 7), .bin .add (T 6) (C (8)), none⟩,
 ⟨(some 8), .bin .sub (T 7) (C (1)), none⟩,
 ⟨(some 9), .bin .quo (T 8) (C (8)), none⟩,
 ⟨(some 10), .bin .mul (T 9) (C (8)), none⟩,
 ⟨(some 11), .nilc (T 2), none⟩,
 ⟨(some 12), .faddr 1 (T 11), none⟩,
 ⟨none, .store none (T 12) (T 10), none⟩])
theorem e_huff_Reader_Align : slimC Tryz.prog 13 (Tryz.f98.body.getD .skip) = s_huff_Reader_Align := by kernel_rfl
theorem r_huff_Reader_Align : slimRes Tryz.prog Tryz.f98 = some [] := by kernel_rfl
def s_huff_Reader_Bytes : SCode :=
 (.seq (.reg [⟨(some 4), .mv (.const (.slice none 0 0)), none⟩,
 ⟨(some 5), .mv (.const (.bool false)), none⟩])
 (.seq (.reg [⟨(some 7), .mv (T 0), none⟩,
 ⟨(some 8), .call true n_huff_Reader_Align [(T 7)], none⟩])
 (.seq (.seq (.reg [⟨(some 9), .mv (T 1), none⟩,
 ⟨(some 10), .bin .lss (T 9) (C (0)), none⟩,
 ⟨(some 11), .mv (T 10), none⟩,
 ⟨(some 12), .mv (T 1), (some (11, false))⟩,
 ⟨(some 13), .mv (T 0), (some (11, false))⟩,
 ⟨(some 14), .call true n_huff_Reader_left [(T 13)], (some (11, false))⟩,
 ⟨(some 15), .bin .quo (T 14) (C (8)), (some (11, false))⟩,
 ⟨(some 16), .bin .gtr (T 12) (T 15), (some (11, false))⟩,
 ⟨(some 17), .pick (T 11) (.const (.bool true)) (T 16), none⟩])
 (.cond (T 17)
 (.seq (.reg [⟨(some 4), .mv (.const (.slice none 0 0)), none⟩,
 ⟨(some 5), .mv (.const (.bool false)), none⟩])
 .ret)
 .skip))
 (.seq (.reg [⟨(some 18), .mv (T 0), none⟩,
 ⟨(some 19), .nilc (T 18), none⟩,
 ⟨(some 20), .faddr 1 (T 19), none⟩,
 ⟨(some 21), .load none (T 20), none⟩,
 ⟨(some 22), .bin .quo (T 21) (C (8)), none⟩,
 ⟨(some 6), .mv (T 22), none⟩])
 (.seq (.reg [⟨(some 23), .mv (T 0), none⟩,
 ⟨(some 24), .nilc (T 23), none⟩,
 ⟨(some 25), .faddr 1 (T 24), none⟩,
 ⟨(some 26), .load none (T 25), none⟩,
 ⟨(some 27), .mv (T 1), none⟩,
 ⟨(some 28), .bin .mul (T 27) (C (8)), none⟩,
 ⟨(some 29), .bin .add (T 26) (T 28), none⟩,
 ⟨(some 30), .nilc (T 23), none⟩,
 ⟨(some 31), .faddr 1 (T 30), none⟩,
 ⟨none, .store none (T 31) (T 29), none⟩])
 (.seq (.reg [⟨(some 32), .mv (T 0), none⟩,
 ⟨(some 33), .nilc (T 32), none⟩,
 ⟨(some 34), .faddr 0 (T 33), none⟩,
 ⟨(some 35), .load none (T 34), none⟩,
 ⟨(some 36), .mv (T 6), none⟩,
 ⟨(some 37), .mv (T 6), none⟩,
 ⟨(some 38), .mv (T 1), none⟩,
 ⟨(some 39), .bin .add (T 37) (T 38), none⟩,
 ⟨(some 40), .sl none (T 35) (some (T 36)) (some (T 39)), none⟩,
 ⟨(some 41), .call true n_bytes_Clone [(T 40)], none⟩,
 ⟨(some 4), .mv (T 41), none⟩,
 ⟨(some 5), .mv (.const (.bool true)), none⟩])
 .ret))))))
theorem e_huff_Reader_Bytes : slimC Tryz.prog 42 (Tryz.f99.body.getD .skip) = s_huff_Reader_Bytes := by kernel_rfl
theorem r_huff_Reader_Bytes : slimRes Tryz.prog Tryz.f99 = some [.tmp 4, .tmp 5] := by kernel_rfl
def s_inflate_unpacker_room : SCode :=
 (.seq (.reg [⟨(some 2), .mv (C (0)), none⟩])
 (.seq (.reg [⟨(some 3), .mv (T 0), none⟩,
 ⟨(some 4), .nilc (T 3), none⟩,
 ⟨(some 5), .faddr 2 (T 4), none⟩,
 ⟨(some 6), .load none (T 5), none⟩,
 ⟨(some 7), .mv (T 0), none⟩,
 ⟨(some 8), .nilc (T 7), none⟩,
 ⟨(some 9), .faddr 1 (T 8), none⟩,
 ⟨(some 10), .load none (T 9), none⟩,
 ⟨(some 11), .len false (T 10), none⟩,
 ⟨(some 12), .bin .sub (T 6) (T 11), none⟩,
 ⟨(some 2), .mv (T 12), none⟩])
 .ret))
theorem e_inflate_unpacker_room : slimC Tryz.prog 13 (Tryz.f100.body.getD .skip) = s_inflate_unpacker_room := by kernel_rfl
theorem r_inflate_unpacker_room : slimRes Tryz.prog Tryz.f100 = some [.tmp 2] := by kernel_rfl
def s_huff_NewTree : SCode :=
 (.seq (.reg [⟨(some 2), .mv (.const (.pointer none)), none⟩,
 ⟨(some 3), .mv (C (0)), none⟩])
 (.seq (.seq (.reg [⟨(some 8), .mv (T 0), none⟩,
 ⟨(some 9), .call true n_huff_Check [(T 8)], none⟩,
 ⟨(some 4), .mv (T 9), none⟩])
 (.seq (.reg [⟨(some 10), .mv (T 4), none⟩,
 ⟨(some 11), .bin .neq (T 10) (C (0)), none⟩])
 (.cond (T 11)
 (.seq (.reg [⟨(some 12), .mv (T 4), none⟩,
 ⟨(some 2), .mv (.const (.pointer none)), none⟩,
 ⟨(some 3), .mv (T 12), none⟩])
 .ret)
 .skip)))
 (.seq (.reg [⟨(some 13), .mv (T 0), none⟩,
 ⟨(some 14), .call true n_huff_firstRows [(T 13)], none⟩,
 ⟨(some 15), .mv (T 0), none⟩,
 ⟨(some 16), .call true n_huff_taken [(T 15)], none⟩,
 ⟨(some 17), .build [(.int .i64 (0)), (.int .i64 (0)), (.int .i64 (0)), (.int .i64 (0)), (.int .i64 (0)), (.int .i64 (0)), (.int .i64 (0)), (.int .i64 (0)), (.int .i64 (0)), (.int .i64 (0)), (.int .i64 (0)), (.int .i64 (0)), (.int .i64 (0)), (.int .i64 (0)), (.int .i64 (0)), (.int .i64 (0)), (.slice none 0 0), (.slice none 0 0), (.slice none 0 0), (.slice none 0 0), (.slice none 0 0), (.slice none 0 0), (.slice none 0 0), (.slice none 0 0), (.slice none 0 0), (.slice none 0 0), (.slice none 0 0), (.slice none 0 0), (.slice none 0 0), (.slice none 0 0), (.slice none 0 0), (.slice none 0 0), (.int .i64 (0))] [(0, 16, (T 14)), (32, 1, (T 16))], none⟩,
 ⟨(some 18), .box (T 17), none⟩,
 ⟨(some 5), .mv (T 18), none⟩])
 (.seq (.seq (.reg [⟨(some 19), .mv (T 0), none⟩,
 ⟨(some 20), .len false (T 19), none⟩,
 ⟨(some 21), .mv (C (0)), none⟩])
 (.block 0
 (.loop
 (.seq (.reg [⟨(some 22), .bin .lss (T 21) (T 20), none⟩])
 (.seq (.cond (T 22)
 .skip
 (.exit 0))
 (.seq (.block 1
 (.seq (.reg [⟨(some 23), .mv (T 21), none⟩,
 ⟨(some 24), .iaddr none (T 19) (T 21), none⟩,
 ⟨(some 25), .load none (T 24), none⟩,
 ⟨(some 6), .mv (T 23), none⟩,
 ⟨(some 7), .mv (T 25), none⟩])
 (.seq (.reg [⟨(some 26), .mv (T 7), none⟩,
 ⟨(some 27), .bin .gtr (T 26) (C (0)), none⟩])
 (.cond (T 27)
 (.reg [⟨(some 28), .mv (T 5), none⟩,
 ⟨(some 29), .mv (T 7), none⟩,
 ⟨(some 30), .mv (T 5), none⟩,
 ⟨(some 31), .mv (T 7), none⟩,
 ⟨(some 32), .nilc (T 30), none⟩,
 ⟨(some 33), .faddr 16 (T 32), none⟩,
 ⟨(some 34), .iaddrA 16 none (T 33) (T 31), none⟩,
 ⟨(some 35), .load none (T 34), none⟩,
 ⟨(some 36), .mv (T 6), none⟩,
 ⟨(some 37), .bslice none [(T 36)], none⟩,
 ⟨(some 38), .app none 8 (T 35) (T 37), none⟩,
 ⟨(some 39), .nilc (T 28), none⟩,
 ⟨(some 40), .faddr 16 (T 39), none⟩,
 ⟨(some 41), .iaddrA 16 none (T 40) (T 29), none⟩,
 ⟨none, .store none (T 41) (T 38), none⟩])
 .skip))))
 (.reg [⟨(some 42), .bin .add (T 21) (C (1)), none⟩,
 ⟨(some 21), .mv (T 42), none⟩])))))))
 (.seq (.reg [⟨(some 43), .mv (T 5), none⟩,
 ⟨(some 2), .mv (T 43), none⟩,
 ⟨(some 3), .mv (C (0)), none⟩])
 .ret)))))
theorem e_huff_NewTree : slimC Tryz.prog 44 (Tryz.f101.body.getD .skip) = s_huff_NewTree := by kernel_rfl
theorem r_huff_NewTree : slimRes Tryz.prog Tryz.f101 = some [.tmp 2, .tmp 3] := by kernel_rfl
def s_slices_Concatintint : SCode :=
 (.seq (.reg [⟨(some 2), .mv (.const (.slice none 0 0)), none⟩])
 (.seq (.reg [⟨(some 3), .mv (C (0)), none⟩])
 (.seq (.seq (.reg [⟨(some 9), .mv (T 0), none⟩,
 ⟨(some 10), .len false (T 9), none⟩,
 ⟨(some 11), .mv (C (0)), none⟩])
 (.block 0
 (.loop
 (.seq (.reg [⟨(some 12), .bin .lss (T 11) (T 10), none⟩])
 (.seq (.cond (T 12)
 .skip
 (.exit 0))
 (.seq (.block 1
 (.seq (.reg [⟨(some 13), .iaddr none (T 9) (T 11), none⟩,
 ⟨(some 14), .load none (T 13), none⟩,
 ⟨(some 5), .mv (T 14), none⟩])
 (.seq (.reg [⟨(some 15), .mv (T 3), none⟩,
 ⟨(some 16), .mv (T 5), none⟩,
 ⟨(some 17), .len false (T 16), none⟩,
 ⟨(some 18), .bin .add (T 15) (T 17), none⟩,
 ⟨(some 3), .mv (T 18), none⟩])
 (.seq (.reg [⟨(some 19), .mv (T 3), none⟩,
 ⟨(some 20), .bin .lss (T 19) (C (0)), none⟩])
 (.cond (T 20)
 (.reg [⟨(some 21), .no, none⟩,
 ⟨none, .no, none⟩])
 .skip)))))
 (.reg [⟨(some 22), .bin .add (T 11) (C (1)), none⟩,
 ⟨(some 11), .mv (T 22), none⟩])))))))
 (.seq (.reg [⟨(some 23), .mv (T 3), none⟩,
 ⟨(some 24), .call true n_slices_Growintint [(.const (.slice none 0 0)), (T 23)], none⟩,
 ⟨(some 6), .mv (T 24), none⟩])
 (.seq (.seq (.reg [⟨(some 25), .mv (T 0), none⟩,
 ⟨(some 26), .len false (T 25), none⟩,
 ⟨(some 27), .mv (C (0)), none⟩])
 (.block 2
 (.loop
 (.seq (.reg [⟨(some 28), .bin .lss (T 27) (T 26), none⟩])
 (.seq (.cond (T 28)
 .skip
 (.exit 2))
 (.seq (.block 3
 (.seq (.reg [⟨(some 29), .iaddr none (T 25) (T 27), none⟩,
 ⟨(some 30), .load none (T 29), none⟩,
 ⟨(some 8), .mv (T 30), none⟩])
 (.reg [⟨(some 31), .mv (T 6), none⟩,
 ⟨(some 32), .mv (T 8), none⟩,
 ⟨(some 33), .app none 8 (T 31) (T 32), none⟩,
 ⟨(some 6), .mv (T 33), none⟩])))
 (.reg [⟨(some 34), .bin .add (T 27) (C (1)), none⟩,
 ⟨(some 27), .mv (T 34), none⟩])))))))
 (.seq (.reg [⟨(some 35), .mv (T 6), none⟩,
 ⟨(some 2), .mv (T 35), none⟩])
 .ret))))))
theorem e_slices_Concatintint : slimC Tryz.prog 36 (Tryz.f87.body.getD .skip) = s_slices_Concatintint := by kernel_rfl
theorem r_slices_Concatintint : slimRes Tryz.prog Tryz.f87 = some [.tmp 2] := by kernel_rfl
def s_slices_Repeatintint : SCode :=
 (.seq (.reg [⟨(some 4), .mv (.const (.slice none 0 0)), none⟩])
 (.seq (.seq (.reg [⟨(some 9), .mv (T 1), none⟩,
 ⟨(some 10), .bin .lss (T 9) (C (0)), none⟩])
 (.cond (T 10)
 (.reg [⟨(some 11), .no, none⟩,
 ⟨none, .no, none⟩])
 .skip))
 (.seq (.reg [⟨(some 13), .mv (T 0), none⟩,
 ⟨(some 14), .len false (T 13), none⟩,
 ⟨(some 15), .ci .u64 (T 14), none⟩,
 ⟨(some 16), .mv (T 1), none⟩,
 ⟨(some 17), .ci .u64 (T 16), none⟩,
 ⟨(some 18), .call true n_bits_Mul [(T 15), (T 17)], none⟩,
 ⟨(some 12), .mv (T 18), none⟩,
 ⟨(some 19), .ext (T 12) 0, none⟩,
 ⟨(some 20), .ext (T 12) 1, none⟩,
 ⟨(some 5), .mv (T 19), none⟩,
 ⟨(some 6), .mv (T 20), none⟩])
 (.seq (.seq (.reg [⟨(some 21), .mv (T 5), none⟩,
 ⟨(some 22), .bin .gtr (T 21) (.const (.int .u64 (0))), none⟩,
 ⟨(some 23), .mv (T 22), none⟩,
 ⟨(some 24), .mv (T 6), (some (23, false))⟩,
 ⟨(some 25), .bin .gtr (T 24) (.const (.int .u64 (9223372036854775807))), (some (23, false))⟩,
 ⟨(some 26), .pick (T 23) (.const (.bool true)) (T 25), none⟩])
 (.cond (T 26)
 (.reg [⟨(some 27), .no, none⟩,
 ⟨none, .no, none⟩])
 .skip))
 (.seq (.reg [⟨(some 28), .mv (T 6), none⟩,
 ⟨(some 29), .ci .i64 (T 28), none⟩,
 ⟨(some 30), .mks none 8 [(.int .i64 (0))] (T 29) (T 29), none⟩,
 ⟨(some 7), .mv (T 30), none⟩])
 (.seq (.reg [⟨(some 31), .mv (T 7), none⟩,
 ⟨(some 32), .mv (T 0), none⟩,
 ⟨(some 33), .copy (T 31) (T 32), none⟩,
 ⟨(some 8), .mv (T 33), none⟩])
 (.seq (.block 0
 (.loop
 (.seq (.seq (.reg [⟨(some 34), .mv (T 8), none⟩,
 ⟨(some 35), .mv (T 7), none⟩,
 ⟨(some 36), .len false (T 35), none⟩,
 ⟨(some 37), .bin .lss (T 34) (T 36), none⟩])
 (.cond (T 37)
 .skip
 (.exit 0)))
 (.block 1
 (.reg [⟨(some 38), .mv (T 8), none⟩,
 ⟨(some 39), .mv (T 7), none⟩,
 ⟨(some 40), .mv (T 8), none⟩,
 ⟨(some 41), .sl none (T 39) (some (T 40)) none, none⟩,
 ⟨(some 42), .mv (T 7), none⟩,
 ⟨(some 43), .mv (T 8), none⟩,
 ⟨(some 44), .sl none (T 42) none (some (T 43)), none⟩,
 ⟨(some 45), .copy (T 41) (T 44), none⟩,
 ⟨(some 46), .bin .add (T 38) (T 45), none⟩,
 ⟨(some 8), .mv (T 46), none⟩])))))
 (.seq (.reg [⟨(some 47), .mv (T 7), none⟩,
 ⟨(some 4), .mv (T 47), none⟩])
 .ret))))))))
theorem e_slices_Repeatintint : slimC Tryz.prog 48 (Tryz.f88.body.getD .skip) = s_slices_Repeatintint := by kernel_rfl
theorem r_slices_Repeatintint : slimRes Tryz.prog Tryz.f88 = some [.tmp 4] := by kernel_rfl
def s_huff_Tree_Next : SCode :=
 (.seq (.reg [⟨(some 4), .mv (C (0)), none⟩,
 ⟨(some 5), .mv (C (0)), none⟩])
 (.seq (.reg [⟨(some 6), .mv (C (0)), none⟩])
 (.seq (.seq (.reg [⟨(some 10), .mv (C (0)), none⟩])
 (.block 0
 (.loop
 (.seq (.reg [⟨(some 11), .bin .lss (T 10) (C (15)), none⟩])
 (.seq (.cond (T 11)
 .skip
 (.exit 0))
 (.seq (.block 1
 (.seq (.reg [⟨(some 12), .mv (T 10), none⟩,
 ⟨(some 7), .mv (T 12), none⟩])
 (.seq (.seq (.reg [⟨(some 13), .mv (T 1), none⟩,
 ⟨(some 14), .call true n_huff_Reader_left [(T 13)], none⟩,
 ⟨(some 15), .bin .eql (T 14) (C (0)), none⟩])
 (.cond (T 15)
 (.seq (.reg [⟨(some 4), .mv (C (0)), none⟩,
 ⟨(some 5), .mv (C (2)), none⟩])
 .ret)
 .skip))
 (.seq (.reg [⟨(some 16), .mv (T 6), none⟩,
 ⟨(some 17), .bin .shl (T 16) (.const (.int .u64 (1))), none⟩,
 ⟨(some 18), .mv (T 1), none⟩,
 ⟨(some 19), .call true n_huff_Reader_bit [(T 18)], none⟩,
 ⟨(some 20), .bin .or (T 17) (T 19), none⟩,
 ⟨(some 6), .mv (T 20), none⟩])
 (.seq (.reg [⟨(some 21), .mv (T 7), none⟩,
 ⟨(some 22), .bin .add (T 21) (C (1)), none⟩,
 ⟨(some 8), .mv (T 22), none⟩])
 (.seq (.seq (.reg [⟨(some 23), .mv (T 0), none⟩,
 ⟨(some 24), .mv (T 6), none⟩,
 ⟨(some 25), .mv (T 8), none⟩,
 ⟨(some 26), .call true n_huff_Tree_begins [(T 23), (T 24), (T 25)], none⟩,
 ⟨(some 27), .un .not (T 26), none⟩])
 (.cond (T 27)
 (.exit 0)
 .skip))
 (.seq (.reg [⟨(some 28), .mv (T 6), none⟩,
 ⟨(some 29), .mv (T 0), none⟩,
 ⟨(some 30), .mv (T 8), none⟩,
 ⟨(some 31), .nilc (T 29), none⟩,
 ⟨(some 32), .faddr 0 (T 31), none⟩,
 ⟨(some 33), .iaddrA 16 none (T 32) (T 30), none⟩,
 ⟨(some 34), .load none (T 33), none⟩,
 ⟨(some 35), .bin .sub (T 28) (T 34), none⟩,
 ⟨(some 9), .mv (T 35), none⟩])
 (.seq (.reg [⟨(some 36), .mv (T 9), none⟩,
 ⟨(some 37), .mv (T 0), none⟩,
 ⟨(some 38), .mv (T 8), none⟩,
 ⟨(some 39), .nilc (T 37), none⟩,
 ⟨(some 40), .faddr 16 (T 39), none⟩,
 ⟨(some 41), .iaddrA 16 none (T 40) (T 38), none⟩,
 ⟨(some 42), .load none (T 41), none⟩,
 ⟨(some 43), .len false (T 42), none⟩,
 ⟨(some 44), .bin .lss (T 36) (T 43), none⟩])
 (.cond (T 44)
 (.seq (.reg [⟨(some 45), .mv (T 0), none⟩,
 ⟨(some 46), .mv (T 8), none⟩,
 ⟨(some 47), .nilc (T 45), none⟩,
 ⟨(some 48), .faddr 16 (T 47), none⟩,
 ⟨(some 49), .iaddrA 16 none (T 48) (T 46), none⟩,
 ⟨(some 50), .load none (T 49), none⟩,
 ⟨(some 51), .mv (T 9), none⟩,
 ⟨(some 52), .iaddr none (T 50) (T 51), none⟩,
 ⟨(some 53), .load none (T 52), none⟩,
 ⟨(some 4), .mv (T 53), none⟩,
 ⟨(some 5), .mv (C (0)), none⟩])
 .ret)
 .skip)))))))))
 (.reg [⟨(some 54), .bin .add (T 10) (C (1)), none⟩,
 ⟨(some 10), .mv (T 54), none⟩])))))))
 (.seq (.reg [⟨(some 4), .mv (C (0)), none⟩,
 ⟨(some 5), .mv (C (3)), none⟩])
 .ret))))
theorem e_huff_Tree_Next : slimC Tryz.prog 55 (Tryz.f102.body.getD .skip) = s_huff_Tree_Next := by kernel_rfl
theorem r_huff_Tree_Next : slimRes Tryz.prog Tryz.f102 = some [.tmp 4, .tmp 5] := by kernel_rfl
def s_inflate_unpacker_literal : SCode :=
 (.seq (.reg [⟨(some 4), .mv (C (0)), none⟩])
 (.seq (.seq (.reg [⟨(some 5), .mv (T 0), none⟩,
 ⟨(some 6), .call true n_inflate_unpacker_room [(T 5)], none⟩,
 ⟨(some 7), .bin .lss (T 6) (C (1)), none⟩])
 (.cond (T 7)
 (.seq (.reg [⟨(some 4), .mv (C (4)), none⟩])
 .ret)
 .skip))
 (.seq (.reg [⟨(some 8), .mv (T 0), none⟩,
 ⟨(some 9), .mv (T 0), none⟩,
 ⟨(some 10), .nilc (T 9), none⟩,
 ⟨(some 11), .faddr 1 (T 10), none⟩,
 ⟨(some 12), .load none (T 11), none⟩,
 ⟨(some 13), .mv (T 1), none⟩,
 ⟨(some 14), .bslice none [(T 13)], none⟩,
 ⟨(some 15), .app none 1 (T 12) (T 14), none⟩,
 ⟨(some 16), .nilc (T 8), none⟩,
 ⟨(some 17), .faddr 1 (T 16), none⟩,
 ⟨none, .store none (T 17) (T 15), none⟩])
 (.seq (.reg [⟨(some 4), .mv (C (0)), none⟩])
 .ret))))
theorem e_inflate_unpacker_literal : slimC Tryz.prog 18 (Tryz.f103.body.getD .skip) = s_inflate_unpacker_literal := by kernel_rfl
theorem r_inflate_unpacker_literal : slimRes Tryz.prog Tryz.f103 = some [.tmp 4] := by kernel_rfl
def s_inflate_unpacker_run : SCode :=
 (.seq (.reg [⟨(some 6), .mv (C (0)), none⟩])
 (.seq (.reg [⟨(some 11), .mv (T 0), none⟩,
 ⟨(some 12), .mv (T 1), none⟩,
 ⟨(some 13), .call true n_inflate_unpacker_length [(T 11), (T 12)], none⟩,
 ⟨(some 10), .mv (T 13), none⟩,
 ⟨(some 14), .ext (T 10) 0, none⟩,
 ⟨(some 15), .ext (T 10) 1, none⟩,
 ⟨(some 7), .mv (T 14), none⟩,
 ⟨(some 8), .mv (T 15), none⟩])
 (.seq (.seq (.reg [⟨(some 16), .mv (T 8), none⟩,
 ⟨(some 17), .bin .neq (T 16) (C (0)), none⟩])
 (.cond (T 17)
 (.seq (.reg [⟨(some 18), .mv (T 8), none⟩,
 ⟨(some 6), .mv (T 18), none⟩])
 .ret)
 .skip))
 (.seq (.reg [⟨(some 20), .mv (T 2), none⟩,
 ⟨(some 21), .mv (T 0), none⟩,
 ⟨(some 22), .nilc (T 21), none⟩,
 ⟨(some 23), .faddr 0 (T 22), none⟩,
 ⟨(some 24), .load none (T 23), none⟩,
 ⟨(some 25), .call true n_huff_Tree_Next [(T 20), (T 24)], none⟩,
 ⟨(some 19), .mv (T 25), none⟩,
 ⟨(some 26), .ext (T 19) 0, none⟩,
 ⟨(some 27), .ext (T 19) 1, none⟩,
 ⟨(some 1), .mv (T 26), none⟩,
 ⟨(some 8), .mv (T 27), none⟩])
 (.seq (.seq (.reg [⟨(some 28), .mv (T 8), none⟩,
 ⟨(some 29), .bin .neq (T 28) (C (0)), none⟩])
 (.cond (T 29)
 (.seq (.reg [⟨(some 30), .mv (T 8), none⟩,
 ⟨(some 6), .mv (T 30), none⟩])
 .ret)
 .skip))
 (.seq (.reg [⟨(some 32), .mv (T 0), none⟩,
 ⟨(some 33), .mv (T 1), none⟩,
 ⟨(some 34), .call true n_inflate_unpacker_distance [(T 32), (T 33)], none⟩,
 ⟨(some 31), .mv (T 34), none⟩,
 ⟨(some 35), .ext (T 31) 0, none⟩,
 ⟨(some 36), .ext (T 31) 1, none⟩,
 ⟨(some 9), .mv (T 35), none⟩,
 ⟨(some 8), .mv (T 36), none⟩])
 (.seq (.seq (.reg [⟨(some 37), .mv (T 8), none⟩,
 ⟨(some 38), .bin .neq (T 37) (C (0)), none⟩])
 (.cond (T 38)
 (.seq (.reg [⟨(some 39), .mv (T 8), none⟩,
 ⟨(some 6), .mv (T 39), none⟩])
 .ret)
 .skip))
 (.seq (.seq (.reg [⟨(some 40), .mv (T 9), none⟩,
 ⟨(some 41), .mv (T 0), none⟩,
 ⟨(some 42), .nilc (T 41), none⟩,
 ⟨(some 43), .faddr 1 (T 42), none⟩,
 ⟨(some 44), .load none (T 43), none⟩,
 ⟨(some 45), .len false (T 44), none⟩,
 ⟨(some 46), .bin .gtr (T 40) (T 45), none⟩])
 (.cond (T 46)
 (.seq (.reg [⟨(some 6), .mv (C (3)), none⟩])
 .ret)
 .skip))
 (.seq (.seq (.reg [⟨(some 47), .mv (T 7), none⟩,
 ⟨(some 48), .mv (T 0), none⟩,
 ⟨(some 49), .call true n_inflate_unpacker_room [(T 48)], none⟩,
 ⟨(some 50), .bin .gtr (T 47) (T 49), none⟩])
 (.cond (T 50)
 (.seq (.reg [⟨(some 6), .mv (C (4)), none⟩])
 .ret)
 .skip))
 (.seq (.seq (.reg [⟨(some 51), .mv (T 7), none⟩,
 ⟨(some 52), .mv (C (0)), none⟩])
 (.block 0
 (.loop
 (.seq (.reg [⟨(some 53), .bin .lss (T 52) (T 51), none⟩])
 (.seq (.cond (T 53)
 .skip
 (.exit 0))
 (.seq (.block 1
 (.reg [⟨(some 54), .mv (T 0), none⟩,
 ⟨(some 55), .mv (T 0), none⟩,
 ⟨(some 56), .nilc (T 55), none⟩,
 ⟨(some 57), .faddr 1 (T 56), none⟩,
 ⟨(some 58), .load none (T 57), none⟩,
 ⟨(some 59), .mv (T 0), none⟩,
 ⟨(some 60), .nilc (T 59), none⟩,
 ⟨(some 61), .faddr 1 (T 60), none⟩,
 ⟨(some 62), .load none (T 61), none⟩,
 ⟨(some 63), .mv (T 0), none⟩,
 ⟨(some 64), .nilc (T 63), none⟩,
 ⟨(some 65), .faddr 1 (T 64), none⟩,
 ⟨(some 66), .load none (T 65), none⟩,
 ⟨(some 67), .len false (T 66), none⟩,
 ⟨(some 68), .mv (T 9), none⟩,
 ⟨(some 69), .bin .sub (T 67) (T 68), none⟩,
 ⟨(some 70), .iaddr none (T 62) (T 69), none⟩,
 ⟨(some 71), .load none (T 70), none⟩,
 ⟨(some 72), .bslice none [(T 71)], none⟩,
 ⟨(some 73), .app none 1 (T 58) (T 72), none⟩,
 ⟨(some 74), .nilc (T 54), none⟩,
 ⟨(some 75), .faddr 1 (T 74), none⟩,
 ⟨none, .store none (T 75) (T 73), none⟩]))
 (.reg [⟨(some 76), .bin .add (T 52) (C (1)), none⟩,
 ⟨(some 52), .mv (T 76), none⟩])))))))
 (.seq (.reg [⟨(some 6), .mv (C (0)), none⟩])
 .ret)))))))))))
theorem e_inflate_unpacker_run : slimC Tryz.prog 77 (Tryz.f104.body.getD .skip) = s_inflate_unpacker_run := by kernel_rfl
theorem r_inflate_unpacker_run : slimRes Tryz.prog Tryz.f104 = some [.tmp 6] := by kernel_rfl
def s_inflate_unpacker_teller : SCode :=
 (.seq (.reg [⟨(some 4), .mv (.const (.pointer none)), none⟩,
 ⟨(some 5), .mv (C (0)), none⟩])
 (.seq (.reg [⟨(some 10), .mks none 8 [(.int .i64 (0))] (C (19)) (C (19)), none⟩,
 ⟨(some 6), .mv (T 10), none⟩])
 (.seq (.seq (.reg [⟨(some 11), .mv (T 1), none⟩,
 ⟨(some 12), .mv (C (0)), none⟩])
 (.block 0
 (.loop
 (.seq (.reg [⟨(some 13), .bin .lss (T 12) (T 11), none⟩])
 (.seq (.cond (T 13)
 .skip
 (.exit 0))
 (.seq (.block 1
 (.seq (.reg [⟨(some 14), .mv (T 12), none⟩,
 ⟨(some 7), .mv (T 14), none⟩])
 (.seq (.reg [⟨(some 16), .mv (T 0), none⟩,
 ⟨(some 17), .nilc (T 16), none⟩,
 ⟨(some 18), .faddr 0 (T 17), none⟩,
 ⟨(some 19), .load none (T 18), none⟩,
 ⟨(some 20), .call true n_huff_Reader_Take [(T 19), (C (3))], none⟩,
 ⟨(some 15), .mv (T 20), none⟩,
 ⟨(some 21), .ext (T 15) 0, none⟩,
 ⟨(some 22), .ext (T 15) 1, none⟩,
 ⟨(some 8), .mv (T 21), none⟩,
 ⟨(some 9), .mv (T 22), none⟩])
 (.seq (.seq (.reg [⟨(some 23), .mv (T 9), none⟩,
 ⟨(some 24), .un .not (T 23), none⟩])
 (.cond (T 24)
 (.seq (.reg [⟨(some 4), .mv (.const (.pointer none)), none⟩,
 ⟨(some 5), .mv (C (2)), none⟩])
 .ret)
 .skip))
 (.reg [⟨(some 25), .mv (T 6), none⟩,
 ⟨(some 26), .mv (T 7), none⟩,
 ⟨(some 27), .iaddrA 19 none (.global 1) (T 26), none⟩,
 ⟨(some 28), .load none (T 27), none⟩,
 ⟨(some 29), .mv (T 8), none⟩,
 ⟨(some 30), .iaddr none (T 25) (T 28), none⟩,
 ⟨none, .store none (T 30) (T 29), none⟩])))))
 (.reg [⟨(some 31), .bin .add (T 12) (C (1)), none⟩,
 ⟨(some 12), .mv (T 31), none⟩])))))))
 (.seq (.seq (.reg [⟨(some 32), .mv (T 6), none⟩,
 ⟨(some 33), .call true n_huff_Full [(T 32)], none⟩,
 ⟨(some 34), .un .not (T 33), none⟩])
 (.cond (T 34)
 (.seq (.reg [⟨(some 4), .mv (.const (.pointer none)), none⟩,
 ⟨(some 5), .mv (C (3)), none⟩])
 .ret)
 .skip))
 (.seq (.reg [⟨(some 35), .mv (T 6), none⟩,
 ⟨(some 36), .call true n_huff_NewTree [(T 35)], none⟩,
 ⟨(some 37), .ext (T 36) 0, none⟩,
 ⟨(some 38), .ext (T 36) 1, none⟩,
 ⟨(some 4), .mv (T 37), none⟩,
 ⟨(some 5), .mv (T 38), none⟩])
 .ret)))))
theorem e_inflate_unpacker_teller : slimC Tryz.prog 39 (Tryz.f105.body.getD .skip) = s_inflate_unpacker_teller := by kernel_rfl
theorem r_inflate_unpacker_teller : slimRes Tryz.prog Tryz.f105 = some [.tmp 4, .tmp 5] := by kernel_rfl
def s_inflate_unpacker_lengths : SCode :=
 (.seq (.reg [⟨(some 6), .mv (.const (.slice none 0 0)), none⟩,
 ⟨(some 7), .mv (C (0)), none⟩])
 (.seq (.reg [⟨(some 8), .mv (.const (.slice none 0 0)), none⟩])
 (.seq (.block 0
 (.loop
 (.seq (.seq (.reg [⟨(some 14), .mv (T 8), none⟩,
 ⟨(some 15), .len false (T 14), none⟩,
 ⟨(some 16), .mv (T 2), none⟩,
 ⟨(some 17), .bin .lss (T 15) (T 16), none⟩])
 (.cond (T 17)
 .skip
 (.exit 0)))
 (.block 1
 (.seq (.reg [⟨(some 19), .mv (T 1), none⟩,
 ⟨(some 20), .mv (T 0), none⟩,
 ⟨(some 21), .nilc (T 20), none⟩,
 ⟨(some 22), .faddr 0 (T 21), none⟩,
 ⟨(some 23), .load none (T 22), none⟩,
 ⟨(some 24), .call true n_huff_Tree_Next [(T 19), (T 23)], none⟩,
 ⟨(some 18), .mv (T 24), none⟩,
 ⟨(some 25), .ext (T 18) 0, none⟩,
 ⟨(some 26), .ext (T 18) 1, none⟩,
 ⟨(some 9), .mv (T 25), none⟩,
 ⟨(some 10), .mv (T 26), none⟩])
 (.seq (.seq (.reg [⟨(some 27), .mv (T 10), none⟩,
 ⟨(some 28), .bin .neq (T 27) (C (0)), none⟩])
 (.cond (T 28)
 (.seq (.reg [⟨(some 29), .mv (T 10), none⟩,
 ⟨(some 6), .mv (.const (.slice none 0 0)), none⟩,
 ⟨(some 7), .mv (T 29), none⟩])
 .ret)
 .skip))
 (.seq (.reg [⟨(some 30), .mv (T 9), none⟩,
 ⟨(some 11), .mv (T 30), none⟩,
 ⟨(some 12), .mv (C (1)), none⟩,
 ⟨(some 13), .mv (C (0)), none⟩])
 (.seq (.seq (.reg [⟨(some 31), .mv (T 9), none⟩])
 (.block 2
 (.seq (.reg [⟨(some 33), .bin .eql (T 31) (C (16)), none⟩,
 ⟨(some 32), .mv (T 33), none⟩])
 (.cond (T 32)
 (.seq (.seq (.reg [⟨(some 34), .mv (T 8), none⟩,
 ⟨(some 35), .len false (T 34), none⟩,
 ⟨(some 36), .bin .eql (T 35) (C (0)), none⟩])
 (.cond (T 36)
 (.seq (.reg [⟨(some 6), .mv (.const (.slice none 0 0)), none⟩,
 ⟨(some 7), .mv (C (3)), none⟩])
 .ret)
 .skip))
 (.reg [⟨(some 37), .mv (T 8), none⟩,
 ⟨(some 38), .mv (T 8), none⟩,
 ⟨(some 39), .len false (T 38), none⟩,
 ⟨(some 40), .bin .sub (T 39) (C (1)), none⟩,
 ⟨(some 41), .iaddr none (T 37) (T 40), none⟩,
 ⟨(some 42), .load none (T 41), none⟩,
 ⟨(some 11), .mv (T 42), none⟩,
 ⟨(some 12), .mv (C (3)), none⟩,
 ⟨(some 13), .mv (C (2)), none⟩]))
 (.seq (.reg [⟨(some 44), .bin .eql (T 31) (C (17)), none⟩,
 ⟨(some 43), .mv (T 44), none⟩])
 (.cond (T 43)
 (.reg [⟨(some 11), .mv (C (0)), none⟩,
 ⟨(some 12), .mv (C (3)), none⟩,
 ⟨(some 13), .mv (C (3)), none⟩])
 (.seq (.reg [⟨(some 46), .bin .eql (T 31) (C (18)), none⟩,
 ⟨(some 45), .mv (T 46), none⟩])
 (.cond (T 45)
 (.reg [⟨(some 11), .mv (C (0)), none⟩,
 ⟨(some 12), .mv (C (11)), none⟩,
 ⟨(some 13), .mv (C (7)), none⟩])
 .skip))))))))
 (.seq (.seq (.reg [⟨(some 48), .mv (T 0), none⟩,
 ⟨(some 49), .mv (T 12), none⟩,
 ⟨(some 50), .mv (T 13), none⟩,
 ⟨(some 51), .call true n_inflate_unpacker_plus [(T 48), (T 49), (T 50)], none⟩,
 ⟨(some 47), .mv (T 51), none⟩,
 ⟨(some 52), .ext (T 47) 0, none⟩,
 ⟨(some 53), .ext (T 47) 1, none⟩,
 ⟨(some 12), .mv (T 52), none⟩,
 ⟨(some 10), .mv (T 53), none⟩])
 (.seq (.reg [⟨(some 54), .mv (T 10), none⟩,
 ⟨(some 55), .bin .neq (T 54) (C (0)), none⟩])
 (.cond (T 55)
 (.seq (.reg [⟨(some 56), .mv (T 10), none⟩,
 ⟨(some 6), .mv (.const (.slice none 0 0)), none⟩,
 ⟨(some 7), .mv (T 56), none⟩])
 .ret)
 .skip)))
 (.seq (.seq (.reg [⟨(some 57), .mv (T 12), none⟩,
 ⟨(some 58), .mv (T 2), none⟩,
 ⟨(some 59), .mv (T 8), none⟩,
 ⟨(some 60), .len false (T 59), none⟩,
 ⟨(some 61), .bin .sub (T 58) (T 60), none⟩,
 ⟨(some 62), .bin .gtr (T 57) (T 61), none⟩])
 (.cond (T 62)
 (.seq (.reg [⟨(some 6), .mv (.const (.slice none 0 0)), none⟩,
 ⟨(some 7), .mv (C (3)), none⟩])
 .ret)
 .skip))
 (.reg [⟨(some 63), .mv (T 8), none⟩,
 ⟨(some 64), .mv (T 11), none⟩,
 ⟨(some 65), .bsl none [(T 64)], none⟩,
 ⟨(some 66), .mv (T 12), none⟩,
 ⟨(some 67), .call true n_slices_Repeatintint [(T 65), (T 66)], none⟩,
 ⟨(some 68), .app none 8 (T 63) (T 67), none⟩,
 ⟨(some 8), .mv (T 68), none⟩])))))))))))
 (.seq (.reg [⟨(some 69), .mv (T 8), none⟩,
 ⟨(some 6), .mv (T 69), none⟩,
 ⟨(some 7), .mv (C (0)), none⟩])
 .ret))))
theorem e_inflate_unpacker_lengths : slimC Tryz.prog 70 (Tryz.f106.body.getD .skip) = s_inflate_unpacker_lengths := by kernel_rfl
theorem r_inflate_unpacker_lengths : slimRes Tryz.prog Tryz.f106 = some [.tmp 6, .tmp 7] := by kernel_rfl
def s_inflate_codesOf : SCode :=
 (.seq (.reg [⟨(some 4), .mv (.const (.pointer none)), none⟩,
 ⟨(some 5), .mv (C (0)), none⟩])
 (.seq (.seq (.reg [⟨(some 7), .mv (T 0), none⟩,
 ⟨(some 8), .iaddr none (T 7) (C (256)), none⟩,
 ⟨(some 9), .load none (T 8), none⟩,
 ⟨(some 10), .bin .eql (T 9) (C (0)), none⟩,
 ⟨(some 11), .mv (T 10), none⟩,
 ⟨(some 12), .mv (T 0), (some (11, false))⟩,
 ⟨(some 13), .call true n_huff_Full [(T 12)], (some (11, false))⟩,
 ⟨(some 14), .un .not (T 13), (some (11, false))⟩,
 ⟨(some 15), .pick (T 11) (.const (.bool true)) (T 14), none⟩,
 ⟨(some 16), .mv (T 15), none⟩,
 ⟨(some 17), .mv (T 1), (some (16, false))⟩,
 ⟨(some 18), .call true n_inflate_fewOrFull [(T 17)], (some (16, false))⟩,
 ⟨(some 19), .un .not (T 18), (some (16, false))⟩,
 ⟨(some 20), .pick (T 16) (.const (.bool true)) (T 19), none⟩])
 (.cond (T 20)
 (.seq (.reg [⟨(some 4), .mv (.const (.pointer none)), none⟩,
 ⟨(some 5), .mv (C (3)), none⟩])
 .ret)
 .skip))
 (.seq (.reg [⟨(some 21), .build [(.pointer none), (.pointer none)] [], none⟩,
 ⟨(some 22), .box (T 21), none⟩,
 ⟨(some 6), .mv (T 22), none⟩])
 (.seq (.reg [⟨(some 24), .mv (T 6), none⟩,
 ⟨(some 25), .mv (T 0), none⟩,
 ⟨(some 26), .call true n_huff_NewTree [(T 25)], none⟩,
 ⟨(some 23), .mv (T 26), none⟩,
 ⟨(some 27), .ext (T 23) 0, none⟩,
 ⟨(some 28), .ext (T 23) 1, none⟩,
 ⟨(some 29), .nilc (T 24), none⟩,
 ⟨(some 30), .faddr 0 (T 29), none⟩,
 ⟨none, .store none (T 30) (T 27), none⟩])
 (.seq (.reg [⟨(some 32), .mv (T 6), none⟩,
 ⟨(some 33), .mv (T 1), none⟩,
 ⟨(some 34), .call true n_huff_NewTree [(T 33)], none⟩,
 ⟨(some 31), .mv (T 34), none⟩,
 ⟨(some 35), .ext (T 31) 0, none⟩,
 ⟨(some 36), .ext (T 31) 1, none⟩,
 ⟨(some 37), .nilc (T 32), none⟩,
 ⟨(some 38), .faddr 1 (T 37), none⟩,
 ⟨none, .store none (T 38) (T 35), none⟩])
 (.seq (.reg [⟨(some 39), .mv (T 6), none⟩,
 ⟨(some 4), .mv (T 39), none⟩,
 ⟨(some 5), .mv (C (0)), none⟩])
 .ret))))))
theorem e_inflate_codesOf : slimC Tryz.prog 40 (Tryz.f107.body.getD .skip) = s_inflate_codesOf := by kernel_rfl
theorem r_inflate_codesOf : slimRes Tryz.prog Tryz.f107 = some [.tmp 4, .tmp 5] := by kernel_rfl
def s_huff_Check : SCode :=
 (.seq (.reg [⟨(some 2), .mv (C (0)), none⟩])
 (.seq (.seq (.reg [⟨(some 5), .mv (T 0), none⟩,
 ⟨(some 6), .len false (T 5), none⟩,
 ⟨(some 7), .bin .gtr (T 6) (C (320)), none⟩])
 (.cond (T 7)
 (.seq (.reg [⟨(some 2), .mv (C (4)), none⟩])
 .ret)
 .skip))
 (.seq (.seq (.reg [⟨(some 8), .mv (T 0), none⟩,
 ⟨(some 9), .len false (T 8), none⟩,
 ⟨(some 10), .mv (C (0)), none⟩])
 (.block 0
 (.loop
 (.seq (.reg [⟨(some 11), .bin .lss (T 10) (T 9), none⟩])
 (.seq (.cond (T 11)
 .skip
 (.exit 0))
 (.seq (.block 1
 (.seq (.reg [⟨(some 12), .iaddr none (T 8) (T 10), none⟩,
 ⟨(some 13), .load none (T 12), none⟩,
 ⟨(some 4), .mv (T 13), none⟩])
 (.seq (.reg [⟨(some 14), .mv (T 4), none⟩,
 ⟨(some 15), .bin .lss (T 14) (C (0)), none⟩,
 ⟨(some 16), .mv (T 15), none⟩,
 ⟨(some 17), .mv (T 4), (some (16, false))⟩,
 ⟨(some 18), .bin .gtr (T 17) (C (15)), (some (16, false))⟩,
 ⟨(some 19), .pick (T 16) (.const (.bool true)) (T 18), none⟩])
 (.cond (T 19)
 (.seq (.reg [⟨(some 2), .mv (C (1)), none⟩])
 .ret)
 .skip))))
 (.reg [⟨(some 20), .bin .add (T 10) (C (1)), none⟩,
 ⟨(some 10), .mv (T 20), none⟩])))))))
 (.seq (.seq (.reg [⟨(some 21), .mv (T 0), none⟩,
 ⟨(some 22), .call true n_huff_taken [(T 21)], none⟩,
 ⟨(some 23), .bin .gtr (T 22) (C (32768)), none⟩])
 (.cond (T 23)
 (.seq (.reg [⟨(some 2), .mv (C (3)), none⟩])
 .ret)
 .skip))
 (.seq (.reg [⟨(some 2), .mv (C (0)), none⟩])
 .ret)))))
theorem e_huff_Check : slimC Tryz.prog 24 (Tryz.f132.body.getD .skip) = s_huff_Check := by kernel_rfl
theorem r_huff_Check : slimRes Tryz.prog Tryz.f132 = some [.tmp 2] := by kernel_rfl
def s_huff_firstRows : SCode :=
 (.seq (.reg [⟨(some 2), .alloc (List.replicate 16 (.int .i64 (0))), none⟩])
 (.seq (.reg [⟨(some 3), .alloc (List.replicate 16 (.int .i64 (0))), none⟩])
 (.seq (.seq (.reg [⟨(some 8), .mv (T 0), none⟩,
 ⟨(some 9), .len false (T 8), none⟩,
 ⟨(some 10), .mv (C (0)), none⟩])
 (.block 0
 (.loop
 (.seq (.reg [⟨(some 11), .bin .lss (T 10) (T 9), none⟩])
 (.seq (.cond (T 11)
 .skip
 (.exit 0))
 (.seq (.block 1
 (.seq (.reg [⟨(some 12), .iaddr none (T 8) (T 10), none⟩,
 ⟨(some 13), .load none (T 12), none⟩,
 ⟨(some 5), .mv (T 13), none⟩])
 (.reg [⟨(some 14), .mv (T 5), none⟩,
 ⟨(some 15), .iaddrA 16 none (T 3) (T 14), none⟩,
 ⟨(some 16), .load none (T 15), none⟩,
 ⟨(some 17), .bin .add (T 16) (C (1)), none⟩,
 ⟨(some 18), .iaddrA 16 none (T 3) (T 14), none⟩,
 ⟨none, .store none (T 18) (T 17), none⟩])))
 (.reg [⟨(some 19), .bin .add (T 10) (C (1)), none⟩,
 ⟨(some 10), .mv (T 19), none⟩])))))))
 (.seq (.reg [⟨(some 20), .iaddrA 16 none (T 3) (C (0)), none⟩,
 ⟨none, .store none (T 20) (C (0)), none⟩])
 (.seq (.reg [⟨(some 6), .alloc (List.replicate 16 (.int .i64 (0))), none⟩])
 (.seq (.seq (.reg [⟨(some 21), .mv (C (0)), none⟩])
 (.block 2
 (.loop
 (.seq (.reg [⟨(some 22), .bin .lss (T 21) (C (15)), none⟩])
 (.seq (.cond (T 22)
 .skip
 (.exit 2))
 (.seq (.block 3
 (.seq (.reg [⟨(some 23), .mv (T 21), none⟩,
 ⟨(some 7), .mv (T 23), none⟩])
 (.reg [⟨(some 24), .mv (T 7), none⟩,
 ⟨(some 25), .bin .add (T 24) (C (1)), none⟩,
 ⟨(some 26), .mv (T 7), none⟩,
 ⟨(some 27), .iaddrA 16 none (T 6) (T 26), none⟩,
 ⟨(some 28), .load none (T 27), none⟩,
 ⟨(some 29), .mv (T 7), none⟩,
 ⟨(some 30), .iaddrA 16 none (T 3) (T 29), none⟩,
 ⟨(some 31), .load none (T 30), none⟩,
 ⟨(some 32), .bin .add (T 28) (T 31), none⟩,
 ⟨(some 33), .bin .shl (T 32) (.const (.int .u64 (1))), none⟩,
 ⟨(some 34), .iaddrA 16 none (T 6) (T 25), none⟩,
 ⟨none, .store none (T 34) (T 33), none⟩])))
 (.reg [⟨(some 35), .bin .add (T 21) (C (1)), none⟩,
 ⟨(some 21), .mv (T 35), none⟩])))))))
 (.seq (.reg [⟨(some 36), .load (some 16) (T 6), none⟩,
 ⟨none, .store (some 16) (T 2) (T 36), none⟩])
 .ret)))))))
theorem e_huff_firstRows : slimC Tryz.prog 37 (Tryz.f133.body.getD .skip) = s_huff_firstRows := by kernel_rfl
theorem r_huff_firstRows : slimRes Tryz.prog Tryz.f133 = some [.cell 2 (some 16)] := by kernel_rfl
def s_huff_taken : SCode :=
 (.seq (.reg [⟨(some 2), .mv (C (0)), none⟩])
 (.seq (.reg [⟨(some 3), .mv (C (0)), none⟩])
 (.seq (.seq (.reg [⟨(some 6), .mv (T 0), none⟩,
 ⟨(some 7), .len false (T 6), none⟩,
 ⟨(some 8), .mv (C (0)), none⟩])
 (.block 0
 (.loop
 (.seq (.reg [⟨(some 9), .bin .lss (T 8) (T 7), none⟩])
 (.seq (.cond (T 9)
 .skip
 (.exit 0))
 (.seq (.block 1
 (.seq (.reg [⟨(some 10), .iaddr none (T 6) (T 8), none⟩,
 ⟨(some 11), .load none (T 10), none⟩,
 ⟨(some 5), .mv (T 11), none⟩])
 (.seq (.reg [⟨(some 12), .mv (T 5), none⟩,
 ⟨(some 13), .bin .gtr (T 12) (C (0)), none⟩])
 (.cond (T 13)
 (.reg [⟨(some 14), .mv (T 3), none⟩,
 ⟨(some 15), .mv (T 5), none⟩,
 ⟨(some 16), .bin .shr (C (32768)) (T 15), none⟩,
 ⟨(some 17), .bin .add (T 14) (T 16), none⟩,
 ⟨(some 3), .mv (T 17), none⟩])
 .skip))))
 (.reg [⟨(some 18), .bin .add (T 8) (C (1)), none⟩,
 ⟨(some 8), .mv (T 18), none⟩])))))))
 (.seq (.reg [⟨(some 19), .mv (T 3), none⟩,
 ⟨(some 2), .mv (T 19), none⟩])
 .ret))))
theorem e_huff_taken : slimC Tryz.prog 20 (Tryz.f134.body.getD .skip) = s_huff_taken := by kernel_rfl
theorem r_huff_taken : slimRes Tryz.prog Tryz.f134 = some [.tmp 2] := by kernel_rfl
def s_slices_Growintint : SCode :=
 (.seq (.reg [⟨(some 4), .mv (.const (.slice none 0 0)), none⟩])
 (.seq (.seq (.reg [⟨(some 5), .mv (T 1), none⟩,
 ⟨(some 6), .bin .lss (T 5) (C (0)), none⟩])
 (.cond (T 6)
 (.reg [⟨(some 7), .no, none⟩,
 ⟨none, .no, none⟩])
 .skip))
 (.seq (.seq (.reg [⟨(some 8), .mv (T 1), none⟩,
 ⟨(some 9), .mv (T 0), none⟩,
 ⟨(some 10), .capn (T 9), none⟩,
 ⟨(some 11), .mv (T 0), none⟩,
 ⟨(some 12), .len false (T 11), none⟩,
 ⟨(some 13), .bin .sub (T 10) (T 12), none⟩,
 ⟨(some 14), .bin .sub (T 8) (T 13), none⟩,
 ⟨(some 1), .mv (T 14), none⟩])
 (.seq (.reg [⟨(some 15), .mv (T 1), none⟩,
 ⟨(some 16), .bin .gtr (T 15) (C (0)), none⟩])
 (.cond (T 16)
 (.reg [⟨(some 17), .mv (T 0), none⟩,
 ⟨(some 18), .mv (T 0), none⟩,
 ⟨(some 19), .capn (T 18), none⟩,
 ⟨(some 20), .sl none (T 17) none (some (T 19)), none⟩,
 ⟨(some 21), .mv (T 1), none⟩,
 ⟨(some 22), .appz none 8 [(.int .i64 (0))] (T 20) (T 21), none⟩,
 ⟨(some 23), .mv (T 0), none⟩,
 ⟨(some 24), .len false (T 23), none⟩,
 ⟨(some 25), .sl none (T 22) none (some (T 24)), none⟩,
 ⟨(some 0), .mv (T 25), none⟩])
 .skip)))
 (.seq (.reg [⟨(some 26), .mv (T 0), none⟩,
 ⟨(some 4), .mv (T 26), none⟩])
 .ret))))
theorem e_slices_Growintint : slimC Tryz.prog 27 (Tryz.f125.body.getD .skip) = s_slices_Growintint := by kernel_rfl
theorem r_slices_Growintint : slimRes Tryz.prog Tryz.f125 = some [.tmp 4] := by kernel_rfl
def s_bits_Mul : SCode :=
 (.seq (.reg [⟨(some 4), .mv (.const (.int .u64 (0))), none⟩,
 ⟨(some 5), .mv (.const (.int .u64 (0))), none⟩])
 (.seq (.cond (.const (.bool false))
 (.seq (.reg [⟨(some 11), .mv (T 0), none⟩,
 ⟨(some 12), .ci .u32 (T 11), none⟩,
 ⟨(some 13), .mv (T 1), none⟩,
 ⟨(some 14), .ci .u32 (T 13), none⟩,
 ⟨(some 15), .call true n_bits_Mul32 [(T 12), (T 14)], none⟩,
 ⟨(some 10), .mv (T 15), none⟩,
 ⟨(some 16), .ext (T 10) 0, none⟩,
 ⟨(some 17), .ext (T 10) 1, none⟩,
 ⟨(some 6), .mv (T 16), none⟩,
 ⟨(some 7), .mv (T 17), none⟩])
 (.seq (.reg [⟨(some 18), .mv (T 6), none⟩,
 ⟨(some 19), .ci .u64 (T 18), none⟩,
 ⟨(some 20), .mv (T 7), none⟩,
 ⟨(some 21), .ci .u64 (T 20), none⟩,
 ⟨(some 4), .mv (T 19), none⟩,
 ⟨(some 5), .mv (T 21), none⟩])
 .ret))
 .skip)
 (.seq (.reg [⟨(some 23), .mv (T 0), none⟩,
 ⟨(some 24), .mv (T 1), none⟩,
 ⟨(some 25), .call true n_bits_Mul64 [(T 23), (T 24)], none⟩,
 ⟨(some 22), .mv (T 25), none⟩,
 ⟨(some 26), .ext (T 22) 0, none⟩,
 ⟨(some 27), .ext (T 22) 1, none⟩,
 ⟨(some 8), .mv (T 26), none⟩,
 ⟨(some 9), .mv (T 27), none⟩])
 (.seq (.reg [⟨(some 28), .mv (T 8), none⟩,
 ⟨(some 29), .mv (T 9), none⟩,
 ⟨(some 4), .mv (T 28), none⟩,
 ⟨(some 5), .mv (T 29), none⟩])
 .ret))))
theorem e_bits_Mul : slimC Tryz.prog 30 (Tryz.f126.body.getD .skip) = s_bits_Mul := by kernel_rfl
theorem r_bits_Mul : slimRes Tryz.prog Tryz.f126 = some [.tmp 4, .tmp 5] := by kernel_rfl
def s_huff_Tree_begins : SCode :=
 (.seq (.reg [⟨(some 6), .mv (.const (.bool false)), none⟩])
 (.seq (.reg [⟨(some 7), .mv (T 1), none⟩,
 ⟨(some 8), .mv (T 2), none⟩,
 ⟨(some 9), .bin .sub (C (15)) (T 8), none⟩,
 ⟨(some 10), .bin .shl (T 7) (T 9), none⟩,
 ⟨(some 11), .mv (T 0), none⟩,
 ⟨(some 12), .nilc (T 11), none⟩,
 ⟨(some 13), .faddr 32 (T 12), none⟩,
 ⟨(some 14), .load none (T 13), none⟩,
 ⟨(some 15), .bin .lss (T 10) (T 14), none⟩,
 ⟨(some 6), .mv (T 15), none⟩])
 .ret))
theorem e_huff_Tree_begins : slimC Tryz.prog 16 (Tryz.f135.body.getD .skip) = s_huff_Tree_begins := by kernel_rfl
theorem r_huff_Tree_begins : slimRes Tryz.prog Tryz.f135 = some [.tmp 6] := by kernel_rfl
def s_inflate_unpacker_length : SCode :=
 (.seq (.reg [⟨(some 4), .mv (C (0)), none⟩,
 ⟨(some 5), .mv (C (0)), none⟩])
 (.seq (.block 0
 (.seq (.reg [⟨(some 8), .mv (T 1), none⟩,
 ⟨(some 9), .bin .geq (T 8) (C (29)), none⟩,
 ⟨(some 7), .mv (T 9), none⟩])
 (.cond (T 7)
 (.seq (.reg [⟨(some 4), .mv (C (0)), none⟩,
 ⟨(some 5), .mv (C (3)), none⟩])
 .ret)
 (.seq (.reg [⟨(some 11), .mv (T 1), none⟩,
 ⟨(some 12), .bin .eql (T 11) (C (28)), none⟩,
 ⟨(some 10), .mv (T 12), none⟩])
 (.cond (T 10)
 (.seq (.reg [⟨(some 4), .mv (C (258)), none⟩,
 ⟨(some 5), .mv (C (0)), none⟩])
 .ret)
 (.seq (.reg [⟨(some 14), .mv (T 1), none⟩,
 ⟨(some 15), .bin .lss (T 14) (C (8)), none⟩,
 ⟨(some 13), .mv (T 15), none⟩])
 (.cond (T 13)
 (.seq (.reg [⟨(some 16), .mv (T 1), none⟩,
 ⟨(some 17), .bin .add (C (3)) (T 16), none⟩,
 ⟨(some 4), .mv (T 17), none⟩,
 ⟨(some 5), .mv (C (0)), none⟩])
 .ret)
 .skip)))))))
 (.seq (.reg [⟨(some 18), .mv (T 1), none⟩,
 ⟨(some 19), .bin .quo (T 18) (C (4)), none⟩,
 ⟨(some 20), .bin .sub (T 19) (C (1)), none⟩,
 ⟨(some 6), .mv (T 20), none⟩])
 (.seq (.reg [⟨(some 21), .mv (T 0), none⟩,
 ⟨(some 22), .mv (T 1), none⟩,
 ⟨(some 23), .bin .rem (T 22) (C (4)), none⟩,
 ⟨(some 24), .bin .add (C (4)) (T 23), none⟩,
 ⟨(some 25), .mv (T 6), none⟩,
 ⟨(some 26), .bin .shl (T 24) (T 25), none⟩,
 ⟨(some 27), .bin .add (C (3)) (T 26), none⟩,
 ⟨(some 28), .mv (T 6), none⟩,
 ⟨(some 29), .call true n_inflate_unpacker_plus [(T 21), (T 27), (T 28)], none⟩,
 ⟨(some 30), .ext (T 29) 0, none⟩,
 ⟨(some 31), .ext (T 29) 1, none⟩,
 ⟨(some 4), .mv (T 30), none⟩,
 ⟨(some 5), .mv (T 31), none⟩])
 .ret))))
theorem e_inflate_unpacker_length : slimC Tryz.prog 32 (Tryz.f136.body.getD .skip) = s_inflate_unpacker_length := by kernel_rfl
theorem r_inflate_unpacker_length : slimRes Tryz.prog Tryz.f136 = some [.tmp 4, .tmp 5] := by kernel_rfl
def s_inflate_unpacker_distance : SCode :=
 (.seq (.reg [⟨(some 4), .mv (C (0)), none⟩,
 ⟨(some 5), .mv (C (0)), none⟩])
 (.seq (.block 0
 (.seq (.reg [⟨(some 8), .mv (T 1), none⟩,
 ⟨(some 9), .bin .geq (T 8) (C (30)), none⟩,
 ⟨(some 7), .mv (T 9), none⟩])
 (.cond (T 7)
 (.seq (.reg [⟨(some 4), .mv (C (0)), none⟩,
 ⟨(some 5), .mv (C (3)), none⟩])
 .ret)
 (.seq (.reg [⟨(some 11), .mv (T 1), none⟩,
 ⟨(some 12), .bin .lss (T 11) (C (4)), none⟩,
 ⟨(some 10), .mv (T 12), none⟩])
 (.cond (T 10)
 (.seq (.reg [⟨(some 13), .mv (T 1), none⟩,
 ⟨(some 14), .bin .add (C (1)) (T 13), none⟩,
 ⟨(some 4), .mv (T 14), none⟩,
 ⟨(some 5), .mv (C (0)), none⟩])
 .ret)
 .skip)))))
 (.seq (.reg [⟨(some 15), .mv (T 1), none⟩,
 ⟨(some 16), .bin .quo (T 15) (C (2)), none⟩,
 ⟨(some 17), .bin .sub (T 16) (C (1)), none⟩,
 ⟨(some 6), .mv (T 17), none⟩])
 (.seq (.reg [⟨(some 18), .mv (T 0), none⟩,
 ⟨(some 19), .mv (T 1), none⟩,
 ⟨(some 20), .bin .rem (T 19) (C (2)), none⟩,
 ⟨(some 21), .bin .add (C (2)) (T 20), none⟩,
 ⟨(some 22), .mv (T 6), none⟩,
 ⟨(some 23), .bin .shl (T 21) (T 22), none⟩,
 ⟨(some 24), .bin .add (C (1)) (T 23), none⟩,
 ⟨(some 25), .mv (T 6), none⟩,
 ⟨(some 26), .call true n_inflate_unpacker_plus [(T 18), (T 24), (T 25)], none⟩,
 ⟨(some 27), .ext (T 26) 0, none⟩,
 ⟨(some 28), .ext (T 26) 1, none⟩,
 ⟨(some 4), .mv (T 27), none⟩,
 ⟨(some 5), .mv (T 28), none⟩])
 .ret))))
theorem e_inflate_unpacker_distance : slimC Tryz.prog 29 (Tryz.f137.body.getD .skip) = s_inflate_unpacker_distance := by kernel_rfl
theorem r_inflate_unpacker_distance : slimRes Tryz.prog Tryz.f137 = some [.tmp 4, .tmp 5] := by kernel_rfl
def s_huff_Full : SCode :=
 (.seq (.reg [⟨(some 2), .mv (.const (.bool false)), none⟩])
 (.seq (.reg [⟨(some 3), .mv (T 0), none⟩,
 ⟨(some 4), .call true n_huff_Check [(T 3)], none⟩,
 ⟨(some 5), .bin .eql (T 4) (C (0)), none⟩,
 ⟨(some 6), .mv (T 5), none⟩,
 ⟨(some 7), .mv (T 0), (some (6, true))⟩,
 ⟨(some 8), .call true n_huff_taken [(T 7)], (some (6, true))⟩,
 ⟨(some 9), .bin .eql (T 8) (C (32768)), (some (6, true))⟩,
 ⟨(some 10), .pick (T 6) (T 9) (.const (.bool false)), none⟩,
 ⟨(some 2), .mv (T 10), none⟩])
 .ret))
theorem e_huff_Full : slimC Tryz.prog 11 (Tryz.f138.body.getD .skip) = s_huff_Full := by kernel_rfl
theorem r_huff_Full : slimRes Tryz.prog Tryz.f138 = some [.tmp 2] := by kernel_rfl
def s_inflate_unpacker_plus : SCode :=
 (.seq (.reg [⟨(some 6), .mv (C (0)), none⟩,
 ⟨(some 7), .mv (C (0)), none⟩])
 (.seq (.reg [⟨(some 11), .mv (T 0), none⟩,
 ⟨(some 12), .nilc (T 11), none⟩,
 ⟨(some 13), .faddr 0 (T 12), none⟩,
 ⟨(some 14), .load none (T 13), none⟩,
 ⟨(some 15), .mv (T 2), none⟩,
 ⟨(some 16), .call true n_huff_Reader_Take [(T 14), (T 15)], none⟩,
 ⟨(some 10), .mv (T 16), none⟩,
 ⟨(some 17), .ext (T 10) 0, none⟩,
 ⟨(some 18), .ext (T 10) 1, none⟩,
 ⟨(some 8), .mv (T 17), none⟩,
 ⟨(some 9), .mv (T 18), none⟩])
 (.seq (.seq (.reg [⟨(some 19), .mv (T 9), none⟩,
 ⟨(some 20), .un .not (T 19), none⟩])
 (.cond (T 20)
 (.seq (.reg [⟨(some 6), .mv (C (0)), none⟩,
 ⟨(some 7), .mv (C (2)), none⟩])
 .ret)
 .skip))
 (.seq (.reg [⟨(some 21), .mv (T 1), none⟩,
 ⟨(some 22), .mv (T 8), none⟩,
 ⟨(some 23), .bin .add (T 21) (T 22), none⟩,
 ⟨(some 6), .mv (T 23), none⟩,
 ⟨(some 7), .mv (C (0)), none⟩])
 .ret))))
theorem e_inflate_unpacker_plus : slimC Tryz.prog 24 (Tryz.f139.body.getD .skip) = s_inflate_unpacker_plus := by kernel_rfl
theorem r_inflate_unpacker_plus : slimRes Tryz.prog Tryz.f139 = some [.tmp 6, .tmp 7] := by kernel_rfl
def s_inflate_fewOrFull : SCode :=
 (.seq (.reg [⟨(some 2), .mv (.const (.bool false)), none⟩])
 (.seq (.reg [⟨(some 3), .mv (C (0)), none⟩])
 (.seq (.seq (.reg [⟨(some 6), .mv (T 0), none⟩,
 ⟨(some 7), .len false (T 6), none⟩,
 ⟨(some 8), .mv (C (0)), none⟩])
 (.block 0
 (.loop
 (.seq (.reg [⟨(some 9), .bin .lss (T 8) (T 7), none⟩])
 (.seq (.cond (T 9)
 .skip
 (.exit 0))
 (.seq (.block 1
 (.seq (.reg [⟨(some 10), .iaddr none (T 6) (T 8), none⟩,
 ⟨(some 11), .load none (T 10), none⟩,
 ⟨(some 5), .mv (T 11), none⟩])
 (.reg [⟨(some 12), .mv (T 3), none⟩,
 ⟨(some 13), .mv (T 5), none⟩,
 ⟨(some 14), .bin .add (T 12) (T 13), none⟩,
 ⟨(some 3), .mv (T 14), none⟩])))
 (.reg [⟨(some 15), .bin .add (T 8) (C (1)), none⟩,
 ⟨(some 8), .mv (T 15), none⟩])))))))
 (.seq (.reg [⟨(some 16), .mv (T 3), none⟩,
 ⟨(some 17), .bin .leq (T 16) (C (1)), none⟩,
 ⟨(some 18), .mv (T 17), none⟩,
 ⟨(some 19), .mv (T 0), (some (18, false))⟩,
 ⟨(some 20), .call true n_huff_Full [(T 19)], (some (18, false))⟩,
 ⟨(some 21), .pick (T 18) (.const (.bool true)) (T 20), none⟩,
 ⟨(some 2), .mv (T 21), none⟩])
 .ret))))
theorem e_inflate_fewOrFull : slimC Tryz.prog 22 (Tryz.f140.body.getD .skip) = s_inflate_fewOrFull := by kernel_rfl
theorem r_inflate_fewOrFull : slimRes Tryz.prog Tryz.f140 = some [.tmp 2] := by kernel_rfl
def s_bits_Mul64 : SCode :=
 (.seq (.reg [⟨(some 4), .mv (.const (.int .u64 (0))), none⟩,
 ⟨(some 5), .mv (.const (.int .u64 (0))), none⟩])
 (.seq (.reg [⟨(some 14), .mv (T 0), none⟩,
 ⟨(some 15), .bin .and (T 14) (.const (.int .u64 (4294967295))), none⟩,
 ⟨(some 6), .mv (T 15), none⟩])
 (.seq (.reg [⟨(some 16), .mv (T 0), none⟩,
 ⟨(some 17), .bin .shr (T 16) (.const (.int .u64 (32))), none⟩,
 ⟨(some 7), .mv (T 17), none⟩])
 (.seq (.reg [⟨(some 18), .mv (T 1), none⟩,
 ⟨(some 19), .bin .and (T 18) (.const (.int .u64 (4294967295))), none⟩,
 ⟨(some 8), .mv (T 19), none⟩])
 (.seq (.reg [⟨(some 20), .mv (T 1), none⟩,
 ⟨(some 21), .bin .shr (T 20) (.const (.int .u64 (32))), none⟩,
 ⟨(some 9), .mv (T 21), none⟩])
 (.seq (.reg [⟨(some 22), .mv (T 6), none⟩,
 ⟨(some 23), .mv (T 8), none⟩,
 ⟨(some 24), .bin .mul (T 22) (T 23), none⟩,
 ⟨(some 10), .mv (T 24), none⟩])
 (.seq (.reg [⟨(some 25), .mv (T 7), none⟩,
 ⟨(some 26), .mv (T 8), none⟩,
 ⟨(some 27), .bin .mul (T 25) (T 26), none⟩,
 ⟨(some 28), .mv (T 10), none⟩,
 ⟨(some 29), .bin .shr (T 28) (.const (.int .u64 (32))), none⟩,
 ⟨(some 30), .bin .add (T 27) (T 29), none⟩,
 ⟨(some 11), .mv (T 30), none⟩])
 (.seq (.reg [⟨(some 31), .mv (T 11), none⟩,
 ⟨(some 32), .bin .and (T 31) (.const (.int .u64 (4294967295))), none⟩,
 ⟨(some 12), .mv (T 32), none⟩])
 (.seq (.reg [⟨(some 33), .mv (T 11), none⟩,
 ⟨(some 34), .bin .shr (T 33) (.const (.int .u64 (32))), none⟩,
 ⟨(some 13), .mv (T 34), none⟩])
 (.seq (.reg [⟨(some 35), .mv (T 12), none⟩,
 ⟨(some 36), .mv (T 6), none⟩,
 ⟨(some 37), .mv (T 9), none⟩,
 ⟨(some 38), .bin .mul (T 36) (T 37), none⟩,
 ⟨(some 39), .bin .add (T 35) (T 38), none⟩,
 ⟨(some 12), .mv (T 39), none⟩])
 (.seq (.reg [⟨(some 40), .mv (T 7), none⟩,
 ⟨(some 41), .mv (T 9), none⟩,
 ⟨(some 42), .bin .mul (T 40) (T 41), none⟩,
 ⟨(some 43), .mv (T 13), none⟩,
 ⟨(some 44), .bin .add (T 42) (T 43), none⟩,
 ⟨(some 45), .mv (T 12), none⟩,
 ⟨(some 46), .bin .shr (T 45) (.const (.int .u64 (32))), none⟩,
 ⟨(some 47), .bin .add (T 44) (T 46), none⟩,
 ⟨(some 4), .mv (T 47), none⟩])
 (.seq (.reg [⟨(some 48), .mv (T 0), none⟩,
 ⟨(some 49), .mv (T 1), none⟩,
 ⟨(some 50), .bin .mul (T 48) (T 49), none⟩,
 ⟨(some 5), .mv (T 50), none⟩])
 .ret))))))))))))
theorem e_bits_Mul64 : slimC Tryz.prog 51 (Tryz.f148.body.getD .skip) = s_bits_Mul64 := by kernel_rfl
theorem r_bits_Mul64 : slimRes Tryz.prog Tryz.f148 = some [.tmp 4, .tmp 5] := by kernel_rfl
def s_huff_NewWriter : SCode :=
 (.seq (.reg [⟨(some 0), .mv (.const (.pointer none)), none⟩])
 (.seq (.reg [⟨(some 1), .build [(.slice none 0 0), (.int .i64 (0))] [], none⟩,
 ⟨(some 2), .box (T 1), none⟩,
 ⟨(some 0), .mv (T 2), none⟩])
 .ret))
theorem e_huff_NewWriter : slimC Tryz.prog 3 (Tryz.f19.body.getD .skip) = s_huff_NewWriter := by kernel_rfl
theorem r_huff_NewWriter : slimRes Tryz.prog Tryz.f19 = some [.tmp 0] := by kernel_rfl
def s_deflate_packer_stored : SCode :=
 (.seq (.reg [⟨(some 2), .box (T 0), none⟩])
 (.seq (.block 0
 (.loop
 (.seq (.seq (.reg [⟨(some 4), .mv (T 1), none⟩,
 ⟨(some 5), .len false (T 4), none⟩,
 ⟨(some 6), .bin .gtr (T 5) (C (65535)), none⟩])
 (.cond (T 6)
 .skip
 (.exit 0)))
 (.block 1
 (.seq (.reg [⟨(some 7), .load (some 1) (T 2), none⟩,
 ⟨(some 8), .mv (T 1), none⟩,
 ⟨(some 9), .sl none (T 8) none (some (C (65535))), none⟩,
 ⟨(some 10), .call true n_deflate_packer_storedBlock [(T 7), (C (0)), (T 9)], none⟩])
 (.reg [⟨(some 11), .mv (T 1), none⟩,
 ⟨(some 12), .sl none (T 11) (some (C (65535))) none, none⟩,
 ⟨(some 1), .mv (T 12), none⟩]))))))
 (.reg [⟨(some 13), .load (some 1) (T 2), none⟩,
 ⟨(some 14), .mv (T 1), none⟩,
 ⟨(some 15), .call true n_deflate_packer_storedBlock [(T 13), (C (1)), (T 14)], none⟩])))
theorem e_deflate_packer_stored : slimC Tryz.prog 16 (Tryz.f20.body.getD .skip) = s_deflate_packer_stored := by kernel_rfl
theorem r_deflate_packer_stored : slimRes Tryz.prog Tryz.f20 = some [] := by kernel_rfl
def s_huff_Writer_Bytes : SCode :=
 (.seq (.reg [⟨(some 2), .mv (.const (.slice none 0 0)), none⟩])
 (.seq (.reg [⟨(some 3), .mv (T 0), none⟩,
 ⟨(some 4), .nilc (T 3), none⟩,
 ⟨(some 5), .faddr 0 (T 4), none⟩,
 ⟨(some 6), .load none (T 5), none⟩,
 ⟨(some 7), .call true n_bytes_Clone [(T 6)], none⟩,
 ⟨(some 2), .mv (T 7), none⟩])
 .ret))
theorem e_huff_Writer_Bytes : slimC Tryz.prog 8 (Tryz.f24.body.getD .skip) = s_huff_Writer_Bytes := by kernel_rfl
theorem r_huff_Writer_Bytes : slimRes Tryz.prog Tryz.f24 = some [.tmp 2] := by kernel_rfl
def s_deflate_packer_storedBlock : SCode :=
 (.seq (.reg [⟨(some 3), .box (T 0), none⟩])
 (.seq (.reg [⟨(some 6), .load (some 1) (T 3), none⟩,
 ⟨(some 7), .mv (T 1), none⟩,
 ⟨(some 8), .call true n_deflate_packer_begin [(T 6), (T 7), (C (0))], none⟩])
 (.seq (.reg [⟨(some 9), .faddr 0 (T 3), none⟩,
 ⟨(some 10), .load none (T 9), none⟩,
 ⟨(some 11), .call true n_huff_Writer_Align [(T 10)], none⟩])
 (.seq (.reg [⟨(some 12), .faddr 0 (T 3), none⟩,
 ⟨(some 13), .load none (T 12), none⟩,
 ⟨(some 14), .mv (T 2), none⟩,
 ⟨(some 15), .len false (T 14), none⟩,
 ⟨(some 16), .call true n_huff_Writer_Put [(T 13), (T 15), (C (16))], none⟩])
 (.seq (.reg [⟨(some 17), .faddr 0 (T 3), none⟩,
 ⟨(some 18), .load none (T 17), none⟩,
 ⟨(some 19), .mv (T 2), none⟩,
 ⟨(some 20), .len false (T 19), none⟩,
 ⟨(some 21), .bin .sub (C (65535)) (T 20), none⟩,
 ⟨(some 22), .call true n_huff_Writer_Put [(T 18), (T 21), (C (16))], none⟩])
 (.reg [⟨(some 23), .faddr 0 (T 3), none⟩,
 ⟨(some 24), .load none (T 23), none⟩,
 ⟨(some 25), .mv (T 2), none⟩,
 ⟨(some 26), .call true n_huff_Writer_Raw [(T 24), (T 25)], none⟩]))))))
theorem e_deflate_packer_storedBlock : slimC Tryz.prog 27 (Tryz.f45.body.getD .skip) = s_deflate_packer_storedBlock := by kernel_rfl
theorem r_deflate_packer_storedBlock : slimRes Tryz.prog Tryz.f45 = some [] := by kernel_rfl
def s_deflate_packer_begin : SCode :=
 (.seq (.reg [⟨(some 3), .box (T 0), none⟩])
 (.seq (.reg [⟨(some 6), .faddr 0 (T 3), none⟩,
 ⟨(some 7), .load none (T 6), none⟩,
 ⟨(some 8), .mv (T 1), none⟩,
 ⟨(some 9), .call true n_huff_Writer_Put [(T 7), (T 8), (C (1))], none⟩])
 (.reg [⟨(some 10), .faddr 0 (T 3), none⟩,
 ⟨(some 11), .load none (T 10), none⟩,
 ⟨(some 12), .mv (T 2), none⟩,
 ⟨(some 13), .call true n_huff_Writer_Put [(T 11), (T 12), (C (2))], none⟩])))
theorem e_deflate_packer_begin : slimC Tryz.prog 14 (Tryz.f46.body.getD .skip) = s_deflate_packer_begin := by kernel_rfl
theorem r_deflate_packer_begin : slimRes Tryz.prog Tryz.f46 = some [] := by kernel_rfl
def s_huff_Writer_Align : SCode :=
 (.reg [⟨(some 2), .mv (T 0), none⟩,
 ⟨(some 3), .mv (T 0), none⟩,
 ⟨(some 4), .nilc (T 3), none⟩,
 ⟨(some 5), .faddr 0 (T 4), none⟩,
 ⟨(some 6), .load none (T 5), none⟩,
 ⟨(some 7), .len false (T 6), none⟩,
 ⟨(some 8), .bin .mul (T 7) (C (8)), none⟩,
 ⟨(some 9), .nilc (T 2), none⟩,
 ⟨(some 10), .faddr 1 (T 9), none⟩,
 ⟨none, .store none (T 10) (T 8), none⟩])
theorem e_huff_Writer_Align : slimC Tryz.prog 11 (Tryz.f79.body.getD .skip) = s_huff_Writer_Align := by kernel_rfl
theorem r_huff_Writer_Align : slimRes Tryz.prog Tryz.f79 = some [] := by kernel_rfl
def s_huff_Writer_Put : SCode :=
 (.seq (.seq (.reg [⟨(some 7), .mv (T 2), none⟩,
 ⟨(some 8), .bin .lss (T 7) (C (0)), none⟩,
 ⟨(some 9), .mv (T 8), none⟩,
 ⟨(some 10), .mv (T 2), (some (9, false))⟩,
 ⟨(some 11), .bin .gtr (T 10) (C (24)), (some (9, false))⟩,
 ⟨(some 12), .pick (T 9) (.const (.bool true)) (T 11), none⟩])
 (.cond (T 12)
 .ret
 .skip))
 (.seq (.reg [⟨(some 13), .mv (T 2), none⟩,
 ⟨(some 14), .mv (C (0)), none⟩])
 (.block 0
 (.loop
 (.seq (.reg [⟨(some 15), .bin .lss (T 14) (T 13), none⟩])
 (.seq (.cond (T 15)
 .skip
 (.exit 0))
 (.seq (.block 1
 (.seq (.reg [⟨(some 16), .mv (T 14), none⟩,
 ⟨(some 6), .mv (T 16), none⟩])
 (.reg [⟨(some 17), .mv (T 0), none⟩,
 ⟨(some 18), .mv (T 1), none⟩,
 ⟨(some 19), .mv (T 6), none⟩,
 ⟨(some 20), .bin .shr (T 18) (T 19), none⟩,
 ⟨(some 21), .bin .and (T 20) (C (1)), none⟩,
 ⟨(some 22), .call true n_huff_Writer_bit [(T 17), (T 21)], none⟩])))
 (.reg [⟨(some 23), .bin .add (T 14) (C (1)), none⟩,
 ⟨(some 14), .mv (T 23), none⟩]))))))))
theorem e_huff_Writer_Put : slimC Tryz.prog 24 (Tryz.f80.body.getD .skip) = s_huff_Writer_Put := by kernel_rfl
theorem r_huff_Writer_Put : slimRes Tryz.prog Tryz.f80 = some [] := by kernel_rfl
def s_huff_Writer_Raw : SCode :=
 (.seq (.reg [⟨(some 4), .mv (T 0), none⟩,
 ⟨(some 5), .mv (T 0), none⟩,
 ⟨(some 6), .nilc (T 5), none⟩,
 ⟨(some 7), .faddr 0 (T 6), none⟩,
 ⟨(some 8), .load none (T 7), none⟩,
 ⟨(some 9), .mv (T 1), none⟩,
 ⟨(some 10), .app none 1 (T 8) (T 9), none⟩,
 ⟨(some 11), .nilc (T 4), none⟩,
 ⟨(some 12), .faddr 0 (T 11), none⟩,
 ⟨none, .store none (T 12) (T 10), none⟩])
 (.reg [⟨(some 13), .mv (T 0), none⟩,
 ⟨(some 14), .call true n_huff_Writer_Align [(T 13)], none⟩]))
theorem e_huff_Writer_Raw : slimC Tryz.prog 15 (Tryz.f81.body.getD .skip) = s_huff_Writer_Raw := by kernel_rfl
theorem r_huff_Writer_Raw : slimRes Tryz.prog Tryz.f81 = some [] := by kernel_rfl
def s_huff_Writer_bit : SCode :=
 (.seq (.seq (.reg [⟨(some 4), .mv (T 0), none⟩,
 ⟨(some 5), .nilc (T 4), none⟩,
 ⟨(some 6), .faddr 1 (T 5), none⟩,
 ⟨(some 7), .load none (T 6), none⟩,
 ⟨(some 8), .bin .rem (T 7) (C (8)), none⟩,
 ⟨(some 9), .bin .eql (T 8) (C (0)), none⟩])
 (.cond (T 9)
 (.reg [⟨(some 10), .mv (T 0), none⟩,
 ⟨(some 11), .mv (T 0), none⟩,
 ⟨(some 12), .nilc (T 11), none⟩,
 ⟨(some 13), .faddr 0 (T 12), none⟩,
 ⟨(some 14), .load none (T 13), none⟩,
 ⟨(some 15), .bslice none [(.const (.int .u8 (0)))], none⟩,
 ⟨(some 16), .app none 1 (T 14) (T 15), none⟩,
 ⟨(some 17), .nilc (T 10), none⟩,
 ⟨(some 18), .faddr 0 (T 17), none⟩,
 ⟨none, .store none (T 18) (T 16), none⟩])
 .skip))
 (.seq (.reg [⟨(some 19), .mv (T 0), none⟩,
 ⟨(some 20), .nilc (T 19), none⟩,
 ⟨(some 21), .faddr 0 (T 20), none⟩,
 ⟨(some 22), .load none (T 21), none⟩,
 ⟨(some 23), .mv (T 0), none⟩,
 ⟨(some 24), .nilc (T 23), none⟩,
 ⟨(some 25), .faddr 1 (T 24), none⟩,
 ⟨(some 26), .load none (T 25), none⟩,
 ⟨(some 27), .bin .quo (T 26) (C (8)), none⟩,
 ⟨(some 28), .iaddr none (T 22) (T 27), none⟩,
 ⟨(some 29), .load none (T 28), none⟩,
 ⟨(some 30), .mv (T 1), none⟩,
 ⟨(some 31), .mv (T 0), none⟩,
 ⟨(some 32), .nilc (T 31), none⟩,
 ⟨(some 33), .faddr 1 (T 32), none⟩,
 ⟨(some 34), .load none (T 33), none⟩,
 ⟨(some 35), .bin .rem (T 34) (C (8)), none⟩,
 ⟨(some 36), .bin .shl (T 30) (T 35), none⟩,
 ⟨(some 37), .ci .u8 (T 36), none⟩,
 ⟨(some 38), .bin .or (T 29) (T 37), none⟩,
 ⟨(some 39), .iaddr none (T 22) (T 27), none⟩,
 ⟨none, .store none (T 39) (T 38), none⟩])
 (.reg [⟨(some 40), .mv (T 0), none⟩,
 ⟨(some 41), .nilc (T 40), none⟩,
 ⟨(some 42), .faddr 1 (T 41), none⟩,
 ⟨(some 43), .load none (T 42), none⟩,
 ⟨(some 44), .bin .add (T 43) (C (1)), none⟩,
 ⟨(some 45), .nilc (T 40), none⟩,
 ⟨(some 46), .faddr 1 (T 45), none⟩,
 ⟨none, .store none (T 46) (T 44), none⟩])))
theorem e_huff_Writer_bit : slimC Tryz.prog 47 (Tryz.f121.body.getD .skip) = s_huff_Writer_bit := by kernel_rfl
theorem r_huff_Writer_bit : slimRes Tryz.prog Tryz.f121 = some [] := by kernel_rfl
end Go.Proofs.YtbcncdpaigljeaaGreatDoor.Aw
namespace Go.Proofs.YtbcncdpaigljeaaGreatDoor.Aw
open Go
set_option linter.unusedSimpArgs false
set_option linter.unusedVariables false
theorem snoc_take (b : List UInt8) (k : Nat) (h : k < b.length) : b.take (k + 1) = b.take k ++ [b.getD k 0] := by
  rw [List.take_succ_eq_append_getElem h]; simp [List.getD, List.getElem?_eq_getElem h]
theorem k0 : AV.sc (.int .u32 0) = w32 0 := rfl
theorem k1 : AV.sc (.int .u32 1) = w32 1 := rfl
theorem kP : AV.sc (.int .u32 3988292384) = w32 3988292384 := rfl
theorem shr1 {c : UInt32} : aBin .shr (w32 c) (.sc (.int .u64 1)) = (True, w32 (UInt32.ofNat (c.toNat / 2))) := w32_shr (k := .u64) (n := 1)
def crcStep (c : UInt32) : UInt32 := if c &&& 1 = 0 then UInt32.ofNat (c.toNat / 2) else UInt32.ofNat (c.toNat / 2) ^^^ 3988292384
def crcN (x : UInt32) : Nat → UInt32
  | 0 => x
  | k + 1 => crcStep (crcN x k)
def crcByte (c : UInt32) (b : UInt8) : UInt32 := crcN (c ^^^ UInt32.ofNat b.toNat) 8
def crcL (c : UInt32) (l : List UInt8) : UInt32 := l.foldl crcByte c
theorem crcL_snoc (c : UInt32) (l : List UInt8) (b : UInt8) : crcL c (l ++ [b]) = crcByte (crcL c l) b := by simp [crcL]
theorem crcL_append (c : UInt32) (l m : List UInt8) : crcL c (l ++ m) = crcL (crcL c l) m := by simp [crcL]
def crcMore (s : UInt32) (l : List UInt8) : UInt32 := ~~~(crcL (~~~s) l)
set_option maxRecDepth 100000 in
theorem digest_CrcMore_c [Tabs Tryz.prog] (s : UInt32) (nl : Bool) (l : List UInt8) (hl : l.length ≤ 1000000) : Con Tryz.prog n_digest_CrcMore [w32 s, .sl nl none (l.map u8)] (w32 (crcMore s l)) := by
  refine Con.of' mix Tryz.func113 rfl Tryz.ntmps113 e_digest_CrcMore r_digest_CrcMore (by simp) (by simp only [AV.free.freeL, free_w32, AV.free, free_u8, Bool.and_self]) rfl ?_
  unfold s_digest_CrcMore
  repeat (first | refine wA ?_ | refine wB ?_ | refine wC rfl ?_ | refine wD rfl ?_ | refine wE ?_ | refine wF (by omega) ?_ | ((first | refine wG ?_ | refine wH ?_ | refine wI ?_ | refine wJ ?_ | refine wK ?_ | refine wL ?_); simp (disch := omega) only [wP, wZ, undef, seval, if_pos, if_neg, aStore, frz, AV.flat, ↓reduceIte, ne_eq, reduceCtorEq, ByteArray.size]))
  refine SWp.loop (α := Nat) (fun k => mk 35 0 [(5, w32 (crcL (~~~s) (l.take k))), (11, .sl nl none (l.map u8)), (12, int l.length), (13, int k)] [])
    (fun k => k ≤ l.length) (fun k => l.length - k) 0 (Nat.zero_le _) (le_mk rfl ?_ ?_ ?_) ?_
  · exact Nat.le_refl _
  · simp (disch := omega) only [wP, wZ, undef, seval, if_pos, if_neg, aStore, frz, AV.flat, ↓reduceIte, ne_eq, reduceCtorEq, ByteArray.size]
    rfl
  · simp (disch := omega) only [wP, wZ, undef, seval, if_pos, if_neg, aStore, frz, AV.flat, ↓reduceIte, ne_eq, reduceCtorEq, ByteArray.size]
  rintro k hk -
  repeat (first | refine wA ?_ | refine wB ?_ | refine wC rfl ?_ | refine wD rfl ?_ | refine wE ?_ | refine wF (by omega) ?_ | ((first | refine wG ?_ | refine wH ?_ | refine wI ?_ | refine wJ ?_ | refine wK ?_ | refine wL ?_); simp (disch := omega) only [wP, wZ, undef, seval, if_pos, if_neg, aStore, frz, AV.flat, ↓reduceIte, ne_eq, reduceCtorEq, ByteArray.size]))
  refine SWp.cond rfl (fun h => ?_) (fun h => ?_)
  · simp only [decide_eq_true_eq] at h
    have hk' : k < l.length := by omega
    have hs : crcL (~~~s) (l.take (k + 1)) = crcN (crcL (~~~s) (l.take k) ^^^ UInt32.ofNat (l.getD k 0).toNat) 8 := by rw [snoc_take l k hk', crcL_snoc]; rfl
    obtain ⟨c, hc⟩ : ∃ c, c = crcL (~~~s) (l.take k) ^^^ UInt32.ofNat (l.getD k 0).toNat := ⟨_, rfl⟩
    rw [← hc] at hs
    repeat (first | refine wA ?_ | refine wB ?_ | refine wC rfl ?_ | refine wD rfl ?_ | refine wE ?_ | refine wF (by omega) ?_ | ((first | refine wG ?_ | refine wH ?_ | refine wI ?_ | refine wJ ?_ | refine wK ?_ | refine wL ?_); simp (disch := omega) only [wP, wZ, undef, seval, if_pos, if_neg, aStore, frz, AV.flat, ↓reduceIte, ne_eq, reduceCtorEq, ByteArray.size, ← hc]))
    refine SWp.loop (α := Nat) (fun j => mk 35 0 [(5, w32 (crcN c j)), (11, .sl nl none (l.map u8)), (12, int l.length), (13, int k), (21, int j)] [])
      (fun j => j ≤ 8) (fun j => 8 - j) 0 (Nat.zero_le _) (le_mk rfl ?_ ?_ ?_) ?_
    · exact Nat.le_refl _
    iterate 2 (case _ => simp (disch := omega) only [wP, wZ, undef, seval, if_pos, if_neg, aStore, frz, AV.flat, ↓reduceIte, ne_eq, reduceCtorEq, ByteArray.size, crcN, ← hc])
    rintro j hj -
    repeat (first | refine wA ?_ | refine wB ?_ | refine wC rfl ?_ | refine wD rfl ?_ | refine wE ?_ | refine wF (by omega) ?_ | ((first | refine wG ?_ | refine wH ?_ | refine wI ?_ | refine wJ ?_ | refine wK ?_ | refine wL ?_); simp (disch := omega) only [wP, wZ, undef, seval, if_pos, if_neg, aStore, frz, AV.flat, ↓reduceIte, ne_eq, reduceCtorEq, ByteArray.size]))
    refine SWp.cond rfl (fun h => ?_) (fun h => ?_)
    · simp only [decide_eq_true_eq] at h
      by_cases c0 : crcN c j &&& 1 = 0
      · have d0 := decide_eq_true c0
        have he : crcN c (j + 1) = UInt32.ofNat ((crcN c j).toNat / 2) := by simp only [crcN, crcStep]; rw [if_pos c0]
        repeat (first | refine wA ?_ | refine wB ?_ | refine wC rfl ?_ | refine wD rfl ?_ | refine wE ?_ | refine wF (by omega) ?_ | ((first | refine wG ?_ | refine wH ?_ | refine wI ?_ | refine wJ ?_ | refine wK ?_ | refine wL ?_); simp (disch := omega) only [wP, wZ, undef, seval, if_pos, if_neg, aStore, frz, AV.flat, ↓reduceIte, ne_eq, reduceCtorEq, ByteArray.size, d0, k0, k1, kP, shr1]))
        refine At.of (j + 1) (by omega) (by omega) rfl rfl (Nat.le_refl _) ?_ ?_
        iterate 2 (case _ => simp (disch := omega) only [wP, wZ, undef, seval, if_pos, if_neg, aStore, frz, AV.flat, ↓reduceIte, ne_eq, reduceCtorEq, ByteArray.size, he])
      · have d0 := decide_eq_false c0
        have he : crcN c (j + 1) = UInt32.ofNat ((crcN c j).toNat / 2) ^^^ 3988292384 := by simp only [crcN, crcStep]; rw [if_neg c0]
        repeat (first | refine wA ?_ | refine wB ?_ | refine wC rfl ?_ | refine wD rfl ?_ | refine wE ?_ | refine wF (by omega) ?_ | ((first | refine wG ?_ | refine wH ?_ | refine wI ?_ | refine wJ ?_ | refine wK ?_ | refine wL ?_); simp (disch := omega) only [wP, wZ, undef, seval, if_pos, if_neg, aStore, frz, AV.flat, ↓reduceIte, ne_eq, reduceCtorEq, ByteArray.size, d0, k0, k1, kP, shr1]))
        refine At.of (j + 1) (by omega) (by omega) rfl rfl (Nat.le_refl _) ?_ ?_
        iterate 2 (case _ => simp (disch := omega) only [wP, wZ, undef, seval, if_pos, if_neg, aStore, frz, AV.flat, ↓reduceIte, ne_eq, reduceCtorEq, ByteArray.size, he])
    · simp only [decide_eq_false_iff_not] at h
      obtain rfl : j = 8 := by omega
      repeat (first | refine wA ?_ | refine wB ?_ | refine wC rfl ?_ | refine wD rfl ?_ | refine wE ?_ | refine wF (by omega) ?_ | ((first | refine wG ?_ | refine wH ?_ | refine wI ?_ | refine wJ ?_ | refine wK ?_ | refine wL ?_); simp (disch := omega) only [wP, wZ, undef, seval, if_pos, if_neg, aStore, frz, AV.flat, ↓reduceIte, ne_eq, reduceCtorEq, ByteArray.size]))
      refine At.of (k + 1) (by omega) (by omega) rfl rfl (Nat.le_refl _) ?_ ?_
      iterate 2 (case _ => simp (disch := omega) only [wP, wZ, undef, seval, if_pos, if_neg, aStore, frz, AV.flat, ↓reduceIte, ne_eq, reduceCtorEq, ByteArray.size, hs])
  · simp only [decide_eq_false_iff_not] at h
    obtain rfl : k = l.length := by omega
    repeat (first | refine wA ?_ | refine wB ?_ | refine wC rfl ?_ | refine wD rfl ?_ | refine wE ?_ | refine wF (by omega) ?_ | ((first | refine wG ?_ | refine wH ?_ | refine wI ?_ | refine wJ ?_ | refine wK ?_ | refine wL ?_); simp (disch := omega) only [wP, wZ, undef, seval, if_pos, if_neg, aStore, frz, AV.flat, ↓reduceIte, ne_eq, reduceCtorEq, ByteArray.size, List.take_length, crcMore]))
theorem digest_Crc_c [Tabs Tryz.prog] (nl : Bool) (l : List UInt8) (hl : l.length ≤ 1000000) : Con Tryz.prog n_digest_Crc [.sl nl none (l.map u8)] (w32 (crcMore 0 l)) := by
  refine Con.of' mix Tryz.func69 rfl Tryz.ntmps69 e_digest_Crc r_digest_Crc (by simp) (by simp only [AV.free.freeL, AV.free, free_u8, Bool.and_self]) rfl ?_
  unfold s_digest_Crc
  repeat (first | refine wA ?_ | refine wB ?_ | refine wC rfl ?_ | refine wD rfl ?_ | refine wE ?_ | refine wF (by omega) ?_ | ((first | refine wG ?_ | refine wH ?_ | refine wI ?_ | refine wJ ?_ | refine wK ?_ | refine wL ?_); simp (disch := omega) only [wP, wZ, undef, seval, if_pos, if_neg, aStore, frz, AV.flat, ↓reduceIte, ne_eq, reduceCtorEq, ByteArray.size, k0]))
  refine goC_p _ (.inl ⟨by simp only [AV.free.freeL, free_w32, AV.free, free_u8, Bool.and_self], digest_CrcMore_c 0 nl l hl⟩) ?_
  repeat (first | refine wA ?_ | refine wB ?_ | refine wC rfl ?_ | refine wD rfl ?_ | refine wE ?_ | refine wF (by omega) ?_ | ((first | refine wG ?_ | refine wH ?_ | refine wI ?_ | refine wJ ?_ | refine wK ?_ | refine wL ?_); simp (disch := omega) only [wP, wZ, undef, seval, if_pos, if_neg, aStore, frz, AV.flat, ↓reduceIte, ne_eq, reduceCtorEq, ByteArray.size]))
end Go.Proofs.YtbcncdpaigljeaaGreatDoor.Aw
namespace Go.Proofs.YtbcncdpaigljeaaGreatDoor.Aw
open Go
set_option linter.unusedSimpArgs false
set_option linter.unusedVariables false
theorem indexByte_some (l : List UInt8) (c : UInt8) (n : Nat) (hn : n < l.length) (hc : l.getD n 0 = c) (h : ∀ k, k < n → l.getD k 0 ≠ c) : Lib.indexByte l c = n := by
  induction l generalizing n with
  | nil => simp at hn
  | cons b l ih =>
    cases n with
    | zero => simp only [List.getD_cons_zero] at hc; simp [Lib.indexByte, hc]
    | succ n =>
      have h0 := h 0 (by omega)
      simp only [List.getD_cons_zero] at h0
      have hr := ih n (by simpa using hn) (by simpa using hc) fun k hk => by simpa using h (k + 1) (by omega)
      have : ((n : Int) == -1) = false := by simp
      simp [Lib.indexByte, h0, hr, this]
theorem take_snoc (b : List UInt8) (k : Nat) (h : k < b.length) : b.take (k + 1) = b.take k ++ [b.getD k 0] := by
  rw [List.take_succ_eq_append_getElem h]; simp [List.getD, List.getElem?_eq_getElem h]
theorem wrap_u64_id {x : Int} (h1 : 0 ≤ x) (h2 : x < 18446744073709551616) : IntKind.u64.wrap x = x := by
  simp only [IntKind.wrap, IntKind.bits, IntKind.signed]
  simp
  omega
end Go.Proofs.YtbcncdpaigljeaaGreatDoor.Aw
namespace Go.Proofs.YtbcncdpaigljeaaGreatDoor.Aw
open Go
set_option linter.unusedSimpArgs false
set_option linter.unusedVariables false
def leB (n : Nat) (size : Nat) : List UInt8 := (List.range size).map fun i => UInt8.ofNat (n / 2 ^ (8 * i))
def leK (n size k : Nat) : List AV := (List.range size).map fun i => .sc (.int .u8 (if i < k then ((n / 2 ^ (8 * i) % 256 : Nat) : Int) else 0))
theorem length_leK {n size k : Nat} : (leK n size k).length = size := by simp [leK]
theorem leK_zero (n size : Nat) : (List.replicate size [AV.sc (.int .u8 0)]).flatten = leK n size 0 := by
  apply List.ext_getElem
  · simp [leK]
  · intro i h1 h2
    simp [leK]
theorem leK_set (n size k : Nat) (h : k < size) : (leK n size k).take k ++ (.sc (.int .u8 ((n / 2 ^ (8 * k) % 256 : Nat) : Int)) :: (leK n size k).drop (k + 1)) = leK n size (k + 1) := by
  apply List.ext_getElem
  · simp [leK]; omega
  · intro i h1 h2
    have hi : i < size := by simpa [leK] using h2
    have e : ((leK n size k).take k).length = k := by simp [leK]; omega
    rw [List.getElem_append]
    split
    · rename_i hlt
      rw [e] at hlt
      simp [leK, hlt, show i < k + 1 by omega]
    · rename_i hge
      rw [e] at hge
      rw [List.getElem_cons]
      split
      · rename_i h0
        rw [e] at h0
        obtain rfl : i = k := by omega
        simp [leK]
      · rename_i h0
        rw [e] at h0
        have h1 : ¬ i < k := by omega
        have h2 : ¬ i < k + 1 := by omega
        have h3 : ¬ (k + 1 + (i - k - 1) < k) := by omega
        simp only [List.getElem_drop, e]
        simp [leK, h2, h3]
theorem leK_full (n size : Nat) : leK n size size = (leB n size).map u8 := by
  simp only [leK, leB, List.map_map]
  apply List.map_congr_left
  intro i hi
  rw [List.mem_range] at hi
  simp only [Function.comp, u8, if_pos hi, UInt8.toNat_ofNat']
def leR (n : Nat) (size : Int) : AV := if size < 1 ∨ 8 < size then .sc (.slice none 0 0) else .sl false none ((leB n size.toNat).map u8)
theorem toNat_mul_lit {n m : Nat} : ((no_index (@OfNat.ofNat Int m instOfNat)) * (n : Int)).toNat = (@OfNat.ofNat Nat m (instOfNatNat m)) * n := rfl
theorem wrap_u8_nat {n : Nat} : IntKind.u8.wrap (n : Int) = ((n % 256 : Nat) : Int) := by rw [wrap_u8]; rfl
set_option maxRecDepth 100000 in
theorem codec_Le_c [Tabs Tryz.prog] (n : Nat) (hn : n < 18446744073709551616) (size : Int) (h1 : -9223372036854775808 ≤ size) (h2 : size ≤ 9223372036854775807) : Con Tryz.prog n_codec_Le [.sc (.int .u64 n), int size] (leR n size) := by
  refine Con.of' mix Tryz.func68 rfl Tryz.ntmps68 e_codec_Le r_codec_Le (by simp) (by simp [AV.free, AV.free.freeL, int]) (by unfold leR; split <;> simp [AV.free, free_u8]) ?_
  unfold s_codec_Le
  by_cases c1 : size < 1
  · have d1 : decide (size < 1) = true := decide_eq_true c1
    have hu : leR n size = .sc (.slice none 0 0) := if_pos (.inl c1)
    repeat (first | refine wA ?_ | refine wB ?_ | refine wC rfl ?_ | refine wD rfl ?_ | refine wE ?_ | refine wF (by omega) ?_ | ((first | refine wG ?_ | refine wH ?_ | refine wI ?_ | refine wJ ?_ | refine wK ?_ | refine wL ?_); simp (disch := omega) only [wP, wZ, undef, seval, if_pos, if_neg, aStore, frz, AV.flat, ↓reduceIte, ne_eq, reduceCtorEq, ByteArray.size, d1, hu]))
  · have d1 : decide (size < 1) = false := decide_eq_false c1
    by_cases c2 : 8 < size
    · have d2 : decide (8 < size) = true := decide_eq_true c2
      have hu : leR n size = .sc (.slice none 0 0) := if_pos (.inr c2)
      repeat (first | refine wA ?_ | refine wB ?_ | refine wC rfl ?_ | refine wD rfl ?_ | refine wE ?_ | refine wF (by omega) ?_ | ((first | refine wG ?_ | refine wH ?_ | refine wI ?_ | refine wJ ?_ | refine wK ?_ | refine wL ?_); simp (disch := omega) only [wP, wZ, undef, seval, if_pos, if_neg, aStore, frz, AV.flat, ↓reduceIte, ne_eq, reduceCtorEq, ByteArray.size, d1, d2, hu]))
    · have d2 : decide (8 < size) = false := decide_eq_false c2
      have hu : leR n size = .sl false none ((leB n size.toNat).map u8) := if_neg (by omega)
      obtain ⟨m, rfl⟩ : ∃ m : Nat, size = m := ⟨size.toNat, by omega⟩
      repeat (first | refine wA ?_ | refine wB ?_ | refine wC rfl ?_ | refine wD rfl ?_ | refine wE ?_ | refine wF (by omega) ?_ | ((first | refine wG ?_ | refine wH ?_ | refine wI ?_ | refine wJ ?_ | refine wK ?_ | refine wL ?_); simp (disch := omega) only [wP, wZ, undef, seval, if_pos, if_neg, aStore, frz, AV.flat, ↓reduceIte, ne_eq, reduceCtorEq, ByteArray.size, d1, d2, leK_zero n]))
      refine SWp.loop (α := Nat) (fun k => mk 29 1 [(0, .sc (.int .u64 n)), (5, .own 14 0 none 0 m), (15, int m), (16, int k)] [(14, 0, .row false (leK n m k))])
        (fun k => k ≤ m) (fun k => m - k) 0 (Nat.zero_le _) (le_mk rfl ?_ ?_ ?_) ?_
      · exact Nat.le_refl _
      iterate 2 (case _ => simp (disch := omega) only [wP, wZ, undef, seval, if_pos, if_neg, aStore, frz, AV.flat, ↓reduceIte, ne_eq, reduceCtorEq, ByteArray.size])
      · rintro k hk -
        refine SWp.seq (SWp.reg ?_)
        simp (disch := omega) only [wP, wZ, undef, seval, if_pos, if_neg, aStore, frz, AV.flat, ↓reduceIte, ne_eq, reduceCtorEq, ByteArray.size]
        refine SWp.seq (SWp.cond rfl (fun h => ?_) (fun h => ?_))
        · simp only [decide_eq_true_eq] at h
          have hk' : k < m := by omega
          repeat (first | refine wA ?_ | refine wB ?_ | refine wC rfl ?_ | refine wD rfl ?_ | refine wE ?_ | refine wF (by omega) ?_ | ((first | refine wG ?_ | refine wH ?_ | refine wI ?_ | refine wJ ?_ | refine wK ?_ | refine wL ?_); simp (disch := omega) only [wP, wZ, undef, seval, if_pos, if_neg, aStore, frz, AV.flat, ↓reduceIte, ne_eq, reduceCtorEq, ByteArray.size, length_leK, toNat_mul_lit, wrap_u8_nat, leK_set n m k hk']))
          refine At.of (k + 1) (by omega) (by omega) rfl rfl (Nat.le_refl _) ?_ ?_
          iterate 2 (case _ => simp (disch := omega) only [wP, wZ, undef, seval, if_pos, if_neg, aStore, frz, AV.flat, ↓reduceIte, ne_eq, reduceCtorEq, ByteArray.size])
        · simp only [decide_eq_false_iff_not] at h
          obtain rfl : k = m := by omega
          have hlb : (leB n k).length = k := by simp [leB]
          repeat (first | refine wA ?_ | refine wB ?_ | refine wC rfl ?_ | refine wD rfl ?_ | refine wE ?_ | refine wF (by omega) ?_ | ((first | refine wG ?_ | refine wH ?_ | refine wI ?_ | refine wJ ?_ | refine wK ?_ | refine wL ?_); simp (disch := omega) only [wP, wZ, undef, seval, if_pos, if_neg, aStore, frz, AV.flat, ↓reduceIte, ne_eq, reduceCtorEq, ByteArray.size, hu, leK_full, length_leK, hlb, List.take_of_length_le]))
end Go.Proofs.YtbcncdpaigljeaaGreatDoor.Aw
namespace Go.Proofs.YtbcncdpaigljeaaGreatDoor.Aw
open Go
set_option linter.unusedSimpArgs false
set_option linter.unusedVariables false
def stB (len : Nat) (at_ size : Int) : Bool := decide (1 ≤ size ∧ size ≤ 8 ∧ 0 ≤ at_ ∧ at_ ≤ len - size)
set_option maxRecDepth 100000 in
theorem codec_stands_c [Tabs Tryz.prog] (nl : Bool) (b : List UInt8) (hb : b.length ≤ 1000000) (at_ size : Int) : Con Tryz.prog n_codec_stands [.sl nl none (b.map u8), int at_, int size] (boo (stB b.length at_ size)) := by
  refine Con.of' mix Tryz.func143 rfl Tryz.ntmps143 e_codec_stands r_codec_stands (by simp) (by simp only [AV.free, AV.free.freeL, free_u8, int, Bool.and_self]) rfl ?_
  unfold s_codec_stands
  by_cases c1 : size < 1
  · have d1 := decide_eq_true c1
    have hu : stB b.length at_ size = false := decide_eq_false (by omega)
    repeat (first | refine wA ?_ | refine wB ?_ | refine wC rfl ?_ | refine wD rfl ?_ | refine wE ?_ | refine wF (by omega) ?_ | ((first | refine wG ?_ | refine wH ?_ | refine wI ?_ | refine wJ ?_ | refine wK ?_ | refine wL ?_); simp (disch := omega) only [wP, wZ, undef, seval, if_pos, if_neg, aStore, frz, AV.flat, ↓reduceIte, ne_eq, reduceCtorEq, ByteArray.size, d1, hu]))
  · have d1 := decide_eq_false c1
    by_cases c2 : 8 < size
    · have d2 := decide_eq_true c2
      have hu : stB b.length at_ size = false := decide_eq_false (by omega)
      repeat (first | refine wA ?_ | refine wB ?_ | refine wC rfl ?_ | refine wD rfl ?_ | refine wE ?_ | refine wF (by omega) ?_ | ((first | refine wG ?_ | refine wH ?_ | refine wI ?_ | refine wJ ?_ | refine wK ?_ | refine wL ?_); simp (disch := omega) only [wP, wZ, undef, seval, if_pos, if_neg, aStore, frz, AV.flat, ↓reduceIte, ne_eq, reduceCtorEq, ByteArray.size, d1, d2, hu]))
    · have d2 := decide_eq_false c2
      by_cases c3 : at_ < 0
      · have d3 := decide_eq_true c3
        have hu : stB b.length at_ size = false := decide_eq_false (by omega)
        repeat (first | refine wA ?_ | refine wB ?_ | refine wC rfl ?_ | refine wD rfl ?_ | refine wE ?_ | refine wF (by omega) ?_ | ((first | refine wG ?_ | refine wH ?_ | refine wI ?_ | refine wJ ?_ | refine wK ?_ | refine wL ?_); simp (disch := omega) only [wP, wZ, undef, seval, if_pos, if_neg, aStore, frz, AV.flat, ↓reduceIte, ne_eq, reduceCtorEq, ByteArray.size, d1, d2, d3, hu]))
      · have d3 := decide_eq_false c3
        have hu : stB b.length at_ size = decide (at_ ≤ (b.length : Int) - size) := by
          unfold stB
          by_cases h : at_ ≤ (b.length : Int) - size
          · rw [decide_eq_true h]; exact decide_eq_true (by omega)
          · rw [decide_eq_false h]; exact decide_eq_false (by omega)
        repeat (first | refine wA ?_ | refine wB ?_ | refine wC rfl ?_ | refine wD rfl ?_ | refine wE ?_ | refine wF (by omega) ?_ | ((first | refine wG ?_ | refine wH ?_ | refine wI ?_ | refine wJ ?_ | refine wK ?_ | refine wL ?_); simp (disch := omega) only [wP, wZ, undef, seval, if_pos, if_neg, aStore, frz, AV.flat, ↓reduceIte, ne_eq, reduceCtorEq, ByteArray.size, d1, d2, d3, hu]))
def beN (l : List UInt8) : Nat := l.foldl (fun n c => n * 256 + c.toNat) 0
def leN (l : List UInt8) : Nat := beN l.reverse
theorem beN_fold (l : List UInt8) (n : Nat) : l.foldl (fun n c => n * 256 + c.toNat) n = n * 256 ^ l.length + beN l := by
  induction l generalizing n with
  | nil => simp [beN]
  | cons c l ih =>
    simp only [beN, List.foldl_cons, List.length_cons]
    rw [ih, ih (0 * 256 + c.toNat), Nat.pow_succ, Nat.add_mul]
    have : n * 256 * 256 ^ l.length = n * (256 ^ l.length * 256) := by rw [Nat.mul_assoc, Nat.mul_comm 256]
    rw [this, show 0 * 256 + c.toNat = c.toNat by omega]; omega
theorem beN_cons (l : List UInt8) (c : UInt8) : beN (c :: l) = c.toNat * 256 ^ l.length + beN l := by
  have := beN_fold l c.toNat
  simp only [beN, List.foldl_cons, Nat.zero_mul, Nat.zero_add]
  exact this
theorem leN_snoc (l : List UInt8) (c : UInt8) : leN (l ++ [c]) = leN l + c.toNat * 256 ^ l.length := by
  unfold leN
  rw [List.reverse_append]
  simp only [List.reverse_cons, List.reverse_nil, List.nil_append, List.cons_append]
  rw [beN_cons, List.length_reverse, Nat.add_comm]
theorem beN_lt (l : List UInt8) : beN l < 256 ^ l.length := by
  induction l with
  | nil => simp [beN]
  | cons c l ih =>
    rw [beN_cons, List.length_cons, Nat.pow_succ]
    have : c.toNat < 256 := c.toNat_lt
    have h : c.toNat * 256 ^ l.length ≤ 255 * 256 ^ l.length := Nat.mul_le_mul_right _ (by omega)
    omega
theorem pow_le8 (k : Nat) (h : k < 8) : 256 ^ k ≤ 72057594037927936 := by
  have : 256 ^ k ≤ 256 ^ 7 := Nat.pow_le_pow_right (by omega) (by omega)
  omega
def getLeR (b : List UInt8) (at_ size : Int) : AV := if stB b.length at_ size = true then .tup [.sc (.int .u64 (leN ((b.drop at_.toNat).take size.toNat))), boo true] else .tup [.sc (.int .u64 0), boo false]
theorem drop_get (b : List UInt8) (a m k : Nat) (h : k < m) (h' : a + m ≤ b.length) : b.getD (a + k) 0 = ((b.drop a).take m).getD k 0 := by
  simp only [List.getD, List.getElem?_take, if_pos h, List.getElem?_drop]
set_option maxRecDepth 100000 in
theorem codec_GetLe_c [Tabs Tryz.prog] (nl : Bool) (b : List UInt8) (hb : b.length ≤ 1000000) (at_ size : Int) : Con Tryz.prog n_codec_GetLe [.sl nl none (b.map u8), int at_, int size] (getLeR b at_ size) := by
  refine Con.of' mix Tryz.func115 rfl Tryz.ntmps115 e_codec_GetLe r_codec_GetLe (by simp) (by simp only [AV.free, AV.free.freeL, free_u8, int, Bool.and_self]) (by unfold getLeR; split <;> rfl) ?_
  unfold s_codec_GetLe
  repeat (first | refine wA ?_ | refine wB ?_ | refine wC rfl ?_ | refine wD rfl ?_ | refine wE ?_ | refine wF (by omega) ?_ | ((first | refine wG ?_ | refine wH ?_ | refine wI ?_ | refine wJ ?_ | refine wK ?_ | refine wL ?_); simp (disch := omega) only [wP, wZ, undef, seval, if_pos, if_neg, aStore, frz, AV.flat, ↓reduceIte, ne_eq, reduceCtorEq, ByteArray.size]))
  refine goC_p _ (.inl ⟨by simp only [AV.free, AV.free.freeL, free_u8, Bool.and_self], codec_stands_c nl b hb at_ size⟩) ?_
  cases hst : stB b.length at_ size with
  | false =>
    have hr : getLeR b at_ size = .tup [.sc (.int .u64 0), boo false] := by unfold getLeR; rw [hst]; rfl
    repeat (first | refine wA ?_ | refine wB ?_ | refine wC rfl ?_ | refine wD rfl ?_ | refine wE ?_ | refine wF (by omega) ?_ | ((first | refine wG ?_ | refine wH ?_ | refine wI ?_ | refine wJ ?_ | refine wK ?_ | refine wL ?_); simp (disch := omega) only [wP, wZ, undef, seval, if_pos, if_neg, aStore, frz, AV.flat, ↓reduceIte, ne_eq, reduceCtorEq, ByteArray.size, hr]))
  | true =>
    have hst' := of_decide_eq_true hst
    obtain ⟨a, rfl⟩ : ∃ a : Nat, at_ = a := ⟨at_.toNat, by omega⟩
    obtain ⟨m, rfl⟩ : ∃ m : Nat, size = m := ⟨size.toNat, by omega⟩
    obtain ⟨w, hw⟩ : ∃ w, w = (b.drop a).take m := ⟨_, rfl⟩
    have hwl : w.length = m := by rw [hw]; simp; omega
    have hr : getLeR b a m = .tup [.sc (.int .u64 (leN w)), boo true] := by unfold getLeR; rw [hst, hw]; rfl
    repeat (first | refine wA ?_ | refine wB ?_ | refine wC rfl ?_ | refine wD rfl ?_ | refine wE ?_ | refine wF (by omega) ?_ | ((first | refine wG ?_ | refine wH ?_ | refine wI ?_ | refine wJ ?_ | refine wK ?_ | refine wL ?_); simp (disch := omega) only [wP, wZ, undef, seval, if_pos, if_neg, aStore, frz, AV.flat, ↓reduceIte, ne_eq, reduceCtorEq, ByteArray.size]))
    refine SWp.loop (α := Nat) (fun k => mk 33 0 [(0, .sl nl none (b.map u8)), (1, int a), (8, .sc (.int .u64 (leN (w.take k)))), (15, int m), (16, int k)] [])
      (fun k => k ≤ m) (fun k => m - k) 0 (Nat.zero_le _) (le_mk rfl ?_ ?_ ?_) ?_
    · exact Nat.le_refl _
    · simp (disch := omega) only [wP, wZ, undef, seval, if_pos, if_neg, aStore, frz, AV.flat, ↓reduceIte, ne_eq, reduceCtorEq, ByteArray.size]
      rfl
    · simp (disch := omega) only [wP, wZ, undef, seval, if_pos, if_neg, aStore, frz, AV.flat, ↓reduceIte, ne_eq, reduceCtorEq, ByteArray.size]
    · rintro k hk -
      repeat (first | refine wA ?_ | refine wB ?_ | refine wC rfl ?_ | refine wD rfl ?_ | refine wE ?_ | refine wF (by omega) ?_ | ((first | refine wG ?_ | refine wH ?_ | refine wI ?_ | refine wJ ?_ | refine wK ?_ | refine wL ?_); simp (disch := omega) only [wP, wZ, undef, seval, if_pos, if_neg, aStore, frz, AV.flat, ↓reduceIte, ne_eq, reduceCtorEq, ByteArray.size]))
      refine SWp.cond rfl (fun h => ?_) (fun h => ?_)
      · simp only [decide_eq_true_eq] at h
        have hkm : k < m := by omega
        have hg : b.getD (a + k) 0 = w.getD k 0 := by rw [hw]; exact drop_get b a m k hkm (by omega)
        have hlt : leN (w.take k) < 256 ^ k := by
          have := beN_lt (w.take k).reverse
          rwa [List.length_reverse, List.length_take, hwl, Nat.min_eq_left (by omega)] at this
        have hp := pow_le8 k (by omega)
        have hc : (w.getD k 0).toNat < 256 := (w.getD k 0).toNat_lt
        have e256 : 2 ^ (8 * k) = 256 ^ k := by rw [Nat.pow_mul]
        have hsh : (w.getD k 0).toNat * 256 ^ k < 18446744073709551616 := by
          have : (w.getD k 0).toNat * 256 ^ k ≤ 255 * 72057594037927936 := Nat.mul_le_mul (by omega) hp
          omega
        have hor : leN (w.take k) ||| (w.getD k 0).toNat * 256 ^ k = leN (w.take (k + 1)) := by
          rw [take_snoc w k (by omega), leN_snoc, List.length_take, hwl, Nat.min_eq_left (by omega), Nat.or_comm, ← e256, mul_or (by rw [e256]; exact hlt), Nat.add_comm]
        have hlt' : leN (w.take (k + 1)) < 18446744073709551616 := by
          have := beN_lt (w.take (k + 1)).reverse
          rw [List.length_reverse, List.length_take, hwl, Nat.min_eq_left (by omega), Nat.pow_succ] at this
          have : leN (w.take (k + 1)) < 256 ^ k * 256 := this
          omega
        repeat (first | refine wA ?_ | refine wB ?_ | refine wC rfl ?_ | refine wD rfl ?_ | refine wE ?_ | refine wF (by omega) ?_ | ((first | refine wG ?_ | refine wH ?_ | refine wI ?_ | refine wJ ?_ | refine wK ?_ | refine wL ?_); simp (disch := omega) only [wP, wZ, undef, seval, if_pos, if_neg, aStore, frz, AV.flat, ↓reduceIte, ne_eq, reduceCtorEq, ByteArray.size, hg, wrap_u64_id, toNat_mul_lit, e256, hor]))
        refine At.of (k + 1) (by omega) (by omega) rfl rfl (Nat.le_refl _) ?_ ?_
        iterate 2 (case _ => simp (disch := omega) only [wP, wZ, undef, seval, if_pos, if_neg, aStore, frz, AV.flat, ↓reduceIte, ne_eq, reduceCtorEq, ByteArray.size])
      · simp only [decide_eq_false_iff_not] at h
        obtain rfl : k = m := by omega
        have hwt : w.take k = w := List.take_of_length_le (by omega)
        repeat (first | refine wA ?_ | refine wB ?_ | refine wC rfl ?_ | refine wD rfl ?_ | refine wE ?_ | refine wF (by omega) ?_ | ((first | refine wG ?_ | refine wH ?_ | refine wI ?_ | refine wJ ?_ | refine wK ?_ | refine wL ?_); simp (disch := omega) only [wP, wZ, undef, seval, if_pos, if_neg, aStore, frz, AV.flat, ↓reduceIte, ne_eq, reduceCtorEq, ByteArray.size, hwt, hr]))
end Go.Proofs.YtbcncdpaigljeaaGreatDoor.Aw
