/-
 THE SLIM CODE of functions of the program, printed by a program of mine and held by the kernel.
-/
import Derived.Test.YtokdmakljdhjiaaDoorAwV
import Derived.Test.YtokdmakljdhjiaaDoorProg
namespace Go.Proofs.YtokdmakljdhjiaaDoor.Aw
open Go
set_option maxRecDepth 100000
set_option linter.unusedSimpArgs false
abbrev n_bits_Mul : Nat := 55
abbrev n_bits_Mul32 : Nat := 64
abbrev n_bits_Mul64 : Nat := 65
abbrev n_bytes_Clone : Nat := 20
abbrev n_drayagelaw04_InflateAll : Nat := 3
abbrev n_drayagelaw04_InflateMost : Nat := 4
abbrev n_drayagelaw04_InflateShort : Nat := 5
abbrev n_drayagelaw04_awake : Nat := 6
abbrev n_drayageref03_Bits : Nat := 12
abbrev n_drayageref03_Check : Nat := 49
abbrev n_drayageref03_Codes : Nat := 31
abbrev n_drayageref03_Full : Nat := 32
abbrev n_drayageref03_Next : Nat := 47
abbrev n_drayageref03_Number : Nat := 26
abbrev n_drayageref03_Row : Nat := 62
abbrev n_drayageref03_head : Nat := 63
abbrev n_drayageref03_share : Nat := 50
abbrev n_drayageref04_Inflate : Nat := 8
abbrev n_drayageref04_fixed : Nat := 16
abbrev n_drayageref04_made : Nat := 17
abbrev n_drayageref04_power : Nat := 48
abbrev n_drayageref04_state_bad : Nat := 27
abbrev n_drayageref04_state_coded : Nat := 15
abbrev n_drayageref04_state_distance : Nat := 30
abbrev n_drayageref04_state_length : Nat := 29
abbrev n_drayageref04_state_number : Nat := 13
abbrev n_drayageref04_state_stored : Nat := 14
abbrev n_drayageref04_state_symbol : Nat := 28
abbrev n_drayageref04_state_told : Nat := 19
abbrev n_drayageref04_times : Nat := 18
abbrev n_huff_Check : Nat := 51
abbrev n_huff_Full : Nat := 59
abbrev n_huff_NewReader : Nat := 9
abbrev n_huff_NewTree : Nat := 38
abbrev n_huff_Reader_Align : Nat := 35
abbrev n_huff_Reader_At : Nat := 11
abbrev n_huff_Reader_Bytes : Nat := 36
abbrev n_huff_Reader_Take : Nat := 21
abbrev n_huff_Reader_bit : Nat := 34
abbrev n_huff_Reader_left : Nat := 33
abbrev n_huff_Tree_Next : Nat := 41
abbrev n_huff_Tree_begins : Nat := 56
abbrev n_huff_firstRows : Nat := 52
abbrev n_huff_taken : Nat := 53
abbrev n_inflate_Inflate : Nat := 7
abbrev n_inflate_codesOf : Nat := 46
abbrev n_inflate_fewOrFull : Nat := 61
abbrev n_inflate_fixedCodes : Nat := 23
abbrev n_inflate_unpacker_block : Nat := 10
abbrev n_inflate_unpacker_distance : Nat := 58
abbrev n_inflate_unpacker_length : Nat := 57
abbrev n_inflate_unpacker_lengths : Nat := 45
abbrev n_inflate_unpacker_literal : Nat := 42
abbrev n_inflate_unpacker_plus : Nat := 60
abbrev n_inflate_unpacker_room : Nat := 37
abbrev n_inflate_unpacker_run : Nat := 43
abbrev n_inflate_unpacker_stored : Nat := 22
abbrev n_inflate_unpacker_symbols : Nat := 24
abbrev n_inflate_unpacker_teller : Nat := 44
abbrev n_inflate_unpacker_toldCodes : Nat := 25
abbrev n_slices_Concatintint : Nat := 39
abbrev n_slices_Growintint : Nat := 54
abbrev n_slices_Repeatintint : Nat := 40
theorem mix : Tryd.prog.follows .mixedOrders = true := by kernel_rfl
/-- The slim code of drayage/drayagelaw04.InflateAll. -/
def s_drayagelaw04_InflateAll : SCode :=
 (.seq (.reg [⟨(some 4), .mv (.const (.bool false)), none⟩])
 (.seq (.seq (.reg [⟨(some 9), .call true n_drayagelaw04_awake [], none⟩,
 ⟨(some 10), .un .not (T 9), none⟩])
 (.cond (T 10)
 (.seq (.reg [⟨(some 4), .mv (.const (.bool false)), none⟩])
 .ret)
 .skip))
 (.seq (.seq (.reg [⟨(some 11), .mv (T 0), none⟩,
 ⟨(some 12), .len false (T 11), none⟩,
 ⟨(some 13), .bin .gtr (T 12) (C (300)), none⟩,
 ⟨(some 14), .mv (T 13), none⟩,
 ⟨(some 15), .mv (T 1), (some (14, false))⟩,
 ⟨(some 16), .bin .gtr (T 15) (C (5000)), (some (14, false))⟩,
 ⟨(some 17), .mv (T 16), (some (14, false))⟩,
 ⟨(some 18), .mv (T 1), (some (17, true))⟩,
 ⟨(some 19), .bin .leq (T 18) (C (16777216)), (some (17, true))⟩,
 ⟨(some 20), .pick (T 17) (T 19) (.const (.bool false)), (some (14, false))⟩,
 ⟨(some 21), .pick (T 14) (.const (.bool true)) (T 20), none⟩])
 (.cond (T 21)
 (.seq (.reg [⟨(some 4), .mv (.const (.bool true)), none⟩])
 .ret)
 .skip))
 (.seq (.reg [⟨(some 23), .mv (T 0), none⟩,
 ⟨(some 24), .mv (T 1), none⟩,
 ⟨(some 25), .call true n_inflate_Inflate [(T 23), (T 24)], none⟩,
 ⟨(some 22), .mv (T 25), none⟩,
 ⟨(some 26), .ext (T 22) 0, none⟩,
 ⟨(some 27), .ext (T 22) 1, none⟩,
 ⟨(some 28), .ext (T 22) 2, none⟩,
 ⟨(some 5), .mv (T 26), none⟩,
 ⟨(some 6), .mv (T 27), none⟩,
 ⟨(some 7), .mv (T 28), none⟩])
 (.seq (.reg [⟨(some 29), .mv (T 0), none⟩,
 ⟨(some 30), .mv (T 1), none⟩,
 ⟨(some 31), .call true n_drayageref04_Inflate [(T 29), (T 30)], none⟩,
 ⟨(some 8), .alloc [(.slice none 0 0), (.int .i64 (0)), (.int .i64 (0))], none⟩,
 ⟨none, .store (some 3) (T 8) (T 31), none⟩])
 (.seq (.reg [⟨(some 32), .mv (T 5), none⟩,
 ⟨(some 33), .b2s (T 32), none⟩,
 ⟨(some 34), .faddr 0 (T 8), none⟩,
 ⟨(some 35), .load none (T 34), none⟩,
 ⟨(some 36), .b2s (T 35), none⟩,
 ⟨(some 37), .bin .eql (T 33) (T 36), none⟩,
 ⟨(some 38), .mv (T 37), none⟩,
 ⟨(some 39), .mv (T 6), (some (38, true))⟩,
 ⟨(some 40), .faddr 1 (T 8), (some (38, true))⟩,
 ⟨(some 41), .load none (T 40), (some (38, true))⟩,
 ⟨(some 42), .bin .eql (T 39) (T 41), (some (38, true))⟩,
 ⟨(some 43), .pick (T 38) (T 42) (.const (.bool false)), none⟩,
 ⟨(some 44), .mv (T 43), none⟩,
 ⟨(some 45), .mv (T 7), (some (44, true))⟩,
 ⟨(some 46), .faddr 2 (T 8), (some (44, true))⟩,
 ⟨(some 47), .load none (T 46), (some (44, true))⟩,
 ⟨(some 48), .bin .eql (T 45) (T 47), (some (44, true))⟩,
 ⟨(some 49), .pick (T 44) (T 48) (.const (.bool false)), none⟩,
 ⟨(some 4), .mv (T 49), none⟩])
 .ret))))))
theorem e_drayagelaw04_InflateAll : slimC Tryd.prog 50 (Tryd.f3.body.getD .skip) = s_drayagelaw04_InflateAll := by kernel_rfl
theorem r_drayagelaw04_InflateAll : slimRes Tryd.prog Tryd.f3 = some [.tmp 4] := by kernel_rfl

/-- The slim code of drayage/drayagelaw04.awake. -/
def s_drayagelaw04_awake : SCode :=
 (.seq (.reg [⟨(some 0), .mv (.const (.bool false)), none⟩])
 (.seq (.reg [⟨(some 8), .bsl none [(.const (.int .u8 (1))), (.const (.int .u8 (1))), (.const (.int .u8 (0))), (.const (.int .u8 (254))), (.const (.int .u8 (255))), (.const (.int .u8 (97)))], none⟩,
 ⟨(some 9), .call true n_inflate_Inflate [(T 8), (C (10))], none⟩,
 ⟨(some 7), .mv (T 9), none⟩,
 ⟨(some 10), .ext (T 7) 0, none⟩,
 ⟨(some 11), .ext (T 7) 1, none⟩,
 ⟨(some 12), .ext (T 7) 2, none⟩,
 ⟨(some 1), .mv (T 10), none⟩,
 ⟨(some 2), .mv (T 11), none⟩,
 ⟨(some 3), .mv (T 12), none⟩])
 (.seq (.reg [⟨(some 14), .bsl none [(.const (.int .u8 (75))), (.const (.int .u8 (4))), (.const (.int .u8 (0))), (.const (.int .u8 (9)))], none⟩,
 ⟨(some 15), .call true n_inflate_Inflate [(T 14), (C (10))], none⟩,
 ⟨(some 13), .mv (T 15), none⟩,
 ⟨(some 16), .ext (T 13) 0, none⟩,
 ⟨(some 17), .ext (T 13) 1, none⟩,
 ⟨(some 18), .ext (T 13) 2, none⟩,
 ⟨(some 4), .mv (T 16), none⟩,
 ⟨(some 5), .mv (T 17), none⟩,
 ⟨(some 6), .mv (T 18), none⟩])
 (.seq (.reg [⟨(some 19), .mv (T 1), none⟩,
 ⟨(some 20), .b2s (T 19), none⟩,
 ⟨(some 21), .bin .eql (T 20) (.const (.string ⟨#[97]⟩)), none⟩,
 ⟨(some 22), .mv (T 21), none⟩,
 ⟨(some 23), .mv (T 2), (some (22, true))⟩,
 ⟨(some 24), .bin .eql (T 23) (C (6)), (some (22, true))⟩,
 ⟨(some 25), .pick (T 22) (T 24) (.const (.bool false)), none⟩,
 ⟨(some 26), .mv (T 25), none⟩,
 ⟨(some 27), .mv (T 3), (some (26, true))⟩,
 ⟨(some 28), .bin .eql (T 27) (C (0)), (some (26, true))⟩,
 ⟨(some 29), .pick (T 26) (T 28) (.const (.bool false)), none⟩,
 ⟨(some 30), .mv (T 29), none⟩,
 ⟨(some 31), .mv (T 4), (some (30, true))⟩,
 ⟨(some 32), .b2s (T 31), (some (30, true))⟩,
 ⟨(some 33), .bin .eql (T 32) (.const (.string ⟨#[97]⟩)), (some (30, true))⟩,
 ⟨(some 34), .pick (T 30) (T 33) (.const (.bool false)), none⟩,
 ⟨(some 35), .mv (T 34), none⟩,
 ⟨(some 36), .mv (T 5), (some (35, true))⟩,
 ⟨(some 37), .bin .eql (T 36) (C (3)), (some (35, true))⟩,
 ⟨(some 38), .pick (T 35) (T 37) (.const (.bool false)), none⟩,
 ⟨(some 39), .mv (T 38), none⟩,
 ⟨(some 40), .mv (T 6), (some (39, true))⟩,
 ⟨(some 41), .bin .eql (T 40) (C (0)), (some (39, true))⟩,
 ⟨(some 42), .pick (T 39) (T 41) (.const (.bool false)), none⟩,
 ⟨(some 0), .mv (T 42), none⟩])
 .ret))))
theorem e_drayagelaw04_awake : slimC Tryd.prog 43 (Tryd.f6.body.getD .skip) = s_drayagelaw04_awake := by kernel_rfl
theorem r_drayagelaw04_awake : slimRes Tryd.prog Tryd.f6 = some [.tmp 0] := by kernel_rfl

/-- The slim code of drayage/inflate.Inflate. -/
def s_inflate_Inflate : SCode :=
 (.seq (.reg [⟨(some 4), .mv (.const (.slice none 0 0)), none⟩,
 ⟨(some 5), .mv (C (0)), none⟩,
 ⟨(some 6), .mv (C (0)), none⟩])
 (.seq (.seq (.reg [⟨(some 9), .mv (T 1), none⟩,
 ⟨(some 10), .bin .lss (T 9) (C (0)), none⟩,
 ⟨(some 11), .mv (T 10), none⟩,
 ⟨(some 12), .mv (T 1), (some (11, false))⟩,
 ⟨(some 13), .bin .gtr (T 12) (C (16777216)), (some (11, false))⟩,
 ⟨(some 14), .pick (T 11) (.const (.bool true)) (T 13), none⟩])
 (.cond (T 14)
 (.seq (.reg [⟨(some 4), .mv (.const (.slice none 0 0)), none⟩,
 ⟨(some 5), .mv (C (0)), none⟩,
 ⟨(some 6), .mv (C (1)), none⟩])
 .ret)
 .skip))
 (.seq (.reg [⟨(some 15), .mv (T 0), none⟩,
 ⟨(some 16), .call true n_huff_NewReader [(T 15)], none⟩,
 ⟨(some 17), .mv (T 1), none⟩,
 ⟨(some 18), .build [(.pointer none), (.slice none 0 0), (.int .i64 (0)), (.pointer none)] [(0, 1, (T 16)), (2, 1, (T 17))], none⟩,
 ⟨(some 19), .box (T 18), none⟩,
 ⟨(some 7), .mv (T 19), none⟩])
 (.seq (.seq (.reg [⟨(some 8), .mv (.const (.bool false)), none⟩])
 (.block 0
 (.loop
 (.seq (.seq (.reg [⟨(some 20), .mv (T 8), none⟩,
 ⟨(some 21), .un .not (T 20), none⟩])
 (.cond (T 21)
 .skip
 (.exit 0)))
 (.block 1
 (.seq (.reg [⟨(some 23), .mv (T 7), none⟩,
 ⟨(some 24), .call true n_inflate_unpacker_block [(T 23)], none⟩,
 ⟨(some 22), .mv (T 24), none⟩,
 ⟨(some 25), .ext (T 22) 0, none⟩,
 ⟨(some 26), .ext (T 22) 1, none⟩,
 ⟨(some 8), .mv (T 25), none⟩,
 ⟨(some 6), .mv (T 26), none⟩])
 (.seq (.reg [⟨(some 27), .mv (T 6), none⟩,
 ⟨(some 28), .bin .neq (T 27) (C (0)), none⟩])
 (.cond (T 28)
 (.seq (.reg [⟨(some 29), .mv (T 6), none⟩,
 ⟨(some 4), .mv (.const (.slice none 0 0)), none⟩,
 ⟨(some 5), .mv (C (0)), none⟩,
 ⟨(some 6), .mv (T 29), none⟩])
 .ret)
 .skip))))))))
 (.seq (.reg [⟨(some 30), .mv (T 7), none⟩,
 ⟨(some 31), .nilc (T 30), none⟩,
 ⟨(some 32), .faddr 0 (T 31), none⟩,
 ⟨(some 33), .load none (T 32), none⟩,
 ⟨(some 34), .call true n_huff_Reader_At [(T 33)], none⟩,
 ⟨(some 35), .bin .add (T 34) (C (8)), none⟩,
 ⟨(some 36), .bin .sub (T 35) (C (1)), none⟩,
 ⟨(some 37), .bin .quo (T 36) (C (8)), none⟩,
 ⟨(some 5), .mv (T 37), none⟩])
 (.seq (.reg [⟨(some 38), .mv (T 7), none⟩,
 ⟨(some 39), .nilc (T 38), none⟩,
 ⟨(some 40), .faddr 1 (T 39), none⟩,
 ⟨(some 41), .load none (T 40), none⟩,
 ⟨(some 42), .mv (T 7), none⟩,
 ⟨(some 43), .nilc (T 42), none⟩,
 ⟨(some 44), .faddr 1 (T 43), none⟩,
 ⟨(some 45), .load none (T 44), none⟩,
 ⟨(some 46), .len false (T 45), none⟩,
 ⟨(some 47), .mv (T 7), none⟩,
 ⟨(some 48), .nilc (T 47), none⟩,
 ⟨(some 49), .faddr 1 (T 48), none⟩,
 ⟨(some 50), .load none (T 49), none⟩,
 ⟨(some 51), .len false (T 50), none⟩,
 ⟨(some 52), .sl3 none (T 41) none (T 46) (T 51), none⟩,
 ⟨(some 53), .mv (T 5), none⟩,
 ⟨(some 4), .mv (T 52), none⟩,
 ⟨(some 5), .mv (T 53), none⟩,
 ⟨(some 6), .mv (C (0)), none⟩])
 .ret))))))
theorem e_inflate_Inflate : slimC Tryd.prog 54 (Tryd.f7.body.getD .skip) = s_inflate_Inflate := by kernel_rfl
theorem r_inflate_Inflate : slimRes Tryd.prog Tryd.f7 = some [.tmp 4, .tmp 5, .tmp 6] := by kernel_rfl

/-- The slim code of drayage/drayageref04.Inflate. -/
def s_drayageref04_Inflate : SCode :=
 (.seq (.reg [⟨(some 4), .alloc [(.slice none 0 0), (.int .i64 (0)), (.int .i64 (0))], none⟩])
 (.seq (.seq (.reg [⟨(some 8), .mv (T 1), none⟩,
 ⟨(some 9), .bin .lss (T 8) (C (0)), none⟩,
 ⟨(some 10), .mv (T 9), none⟩,
 ⟨(some 11), .mv (T 1), (some (10, false))⟩,
 ⟨(some 12), .bin .gtr (T 11) (C (16777216)), (some (10, false))⟩,
 ⟨(some 13), .pick (T 10) (.const (.bool true)) (T 12), none⟩])
 (.cond (T 13)
 (.seq (.reg [⟨(some 14), .build [(.slice none 0 0), (.int .i64 (0)), (.int .i64 (0))] [(2, 1, (C (1)))], none⟩,
 ⟨none, .store (some 3) (T 4) (T 14), none⟩])
 .ret)
 .skip))
 (.seq (.reg [⟨(some 15), .mv (T 0), none⟩,
 ⟨(some 16), .call true n_drayageref03_Bits [(T 15)], none⟩,
 ⟨(some 17), .mv (T 1), none⟩,
 ⟨(some 18), .build [(.slice none 0 0), (.int .i64 (0)), (.slice none 0 0), (.int .i64 (0)), (.int .i64 (0))] [(0, 1, (T 16)), (3, 1, (T 17))], none⟩,
 ⟨(some 19), .box (T 18), none⟩,
 ⟨(some 5), .mv (T 19), none⟩])
 (.seq (.block 0
 (.loop
 (.seq (.seq (.reg [⟨(some 20), .mv (T 5), none⟩,
 ⟨(some 21), .nilc (T 20), none⟩,
 ⟨(some 22), .faddr 4 (T 21), none⟩,
 ⟨(some 23), .load none (T 22), none⟩,
 ⟨(some 24), .bin .eql (T 23) (C (0)), none⟩])
 (.cond (T 24)
 .skip
 (.exit 0)))
 (.block 1
 (.seq (.reg [⟨(some 25), .mv (T 5), none⟩,
 ⟨(some 26), .call true n_drayageref04_state_number [(T 25), (C (1))], none⟩,
 ⟨(some 6), .mv (T 26), none⟩])
 (.seq (.reg [⟨(some 27), .mv (T 5), none⟩,
 ⟨(some 28), .call true n_drayageref04_state_number [(T 27), (C (2))], none⟩,
 ⟨(some 7), .mv (T 28), none⟩])
 (.seq (.seq (.reg [⟨(some 29), .mv (T 5), none⟩,
 ⟨(some 30), .nilc (T 29), none⟩,
 ⟨(some 31), .faddr 4 (T 30), none⟩,
 ⟨(some 32), .load none (T 31), none⟩,
 ⟨(some 33), .bin .neq (T 32) (C (0)), none⟩])
 (.cond (T 33)
 (.exit 0)
 .skip))
 (.seq (.seq (.reg [⟨(some 34), .mv (T 7), none⟩])
 (.block 2
 (.seq (.reg [⟨(some 39), .bin .eql (T 34) (C (0)), none⟩,
 ⟨(some 38), .mv (T 39), none⟩])
 (.cond (T 38)
 (.reg [⟨(some 40), .mv (T 5), none⟩,
 ⟨(some 41), .call true n_drayageref04_state_stored [(T 40)], none⟩])
 (.seq (.reg [⟨(some 43), .bin .eql (T 34) (C (1)), none⟩,
 ⟨(some 42), .mv (T 43), none⟩])
 (.cond (T 42)
 (.reg [⟨(some 44), .mv (T 5), none⟩,
 ⟨(some 45), .call true n_drayageref04_fixed [], none⟩,
 ⟨(some 46), .call true n_drayageref04_times [(C (5)), (C (32))], none⟩,
 ⟨(some 47), .call true n_drayageref04_made [(T 46)], none⟩,
 ⟨(some 48), .call true n_drayageref04_state_coded [(T 44), (T 45), (T 47)], none⟩])
 (.seq (.reg [⟨(some 50), .bin .eql (T 34) (C (2)), none⟩,
 ⟨(some 49), .mv (T 50), none⟩])
 (.cond (T 49)
 (.reg [⟨(some 51), .mv (T 5), none⟩,
 ⟨(some 52), .call true n_drayageref04_state_told [(T 51)], none⟩])
 (.reg [⟨(some 35), .mv (T 5), none⟩,
 ⟨(some 36), .nilc (T 35), none⟩,
 ⟨(some 37), .faddr 4 (T 36), none⟩,
 ⟨none, .store none (T 37) (C (3)), none⟩])))))))))
 (.seq (.reg [⟨(some 53), .mv (T 6), none⟩,
 ⟨(some 54), .bin .eql (T 53) (C (1)), none⟩,
 ⟨(some 55), .mv (T 54), none⟩,
 ⟨(some 56), .mv (T 5), (some (55, true))⟩,
 ⟨(some 57), .nilc (T 56), (some (55, true))⟩,
 ⟨(some 58), .faddr 4 (T 57), (some (55, true))⟩,
 ⟨(some 59), .load none (T 58), (some (55, true))⟩,
 ⟨(some 60), .bin .eql (T 59) (C (0)), (some (55, true))⟩,
 ⟨(some 61), .pick (T 55) (T 60) (.const (.bool false)), none⟩])
 (.cond (T 61)
 (.seq (.reg [⟨(some 62), .mv (T 5), none⟩,
 ⟨(some 63), .nilc (T 62), none⟩,
 ⟨(some 64), .faddr 2 (T 63), none⟩,
 ⟨(some 65), .load none (T 64), none⟩,
 ⟨(some 66), .mv (T 5), none⟩,
 ⟨(some 67), .nilc (T 66), none⟩,
 ⟨(some 68), .faddr 1 (T 67), none⟩,
 ⟨(some 69), .load none (T 68), none⟩,
 ⟨(some 70), .bin .add (T 69) (C (7)), none⟩,
 ⟨(some 71), .bin .quo (T 70) (C (8)), none⟩,
 ⟨(some 72), .build [(.slice none 0 0), (.int .i64 (0)), (.int .i64 (0))] [(0, 1, (T 65)), (1, 1, (T 71))], none⟩,
 ⟨none, .store (some 3) (T 4) (T 72), none⟩])
 .ret)
 .skip))))))))))
 (.seq (.reg [⟨(some 73), .mv (T 5), none⟩,
 ⟨(some 74), .nilc (T 73), none⟩,
 ⟨(some 75), .faddr 4 (T 74), none⟩,
 ⟨(some 76), .load none (T 75), none⟩,
 ⟨(some 77), .build [(.slice none 0 0), (.int .i64 (0)), (.int .i64 (0))] [(2, 1, (T 76))], none⟩,
 ⟨none, .store (some 3) (T 4) (T 77), none⟩])
 .ret)))))
theorem e_drayageref04_Inflate : slimC Tryd.prog 78 (Tryd.f8.body.getD .skip) = s_drayageref04_Inflate := by kernel_rfl
theorem r_drayageref04_Inflate : slimRes Tryd.prog Tryd.f8 = some [.cell 4 (some 3)] := by kernel_rfl

/-- The slim code of drayage/huff.NewReader. -/
def s_huff_NewReader : SCode :=
 (.seq (.reg [⟨(some 2), .mv (.const (.pointer none)), none⟩])
 (.seq (.reg [⟨(some 3), .mv (T 0), none⟩,
 ⟨(some 4), .call true n_bytes_Clone [(T 3)], none⟩,
 ⟨(some 5), .build [(.slice none 0 0), (.int .i64 (0))] [(0, 1, (T 4))], none⟩,
 ⟨(some 6), .box (T 5), none⟩,
 ⟨(some 2), .mv (T 6), none⟩])
 .ret))
theorem e_huff_NewReader : slimC Tryd.prog 7 (Tryd.f9.body.getD .skip) = s_huff_NewReader := by kernel_rfl
theorem r_huff_NewReader : slimRes Tryd.prog Tryd.f9 = some [.tmp 2] := by kernel_rfl

/-- The slim code of (*drayage/inflate.unpacker).block. -/
def s_inflate_unpacker_block : SCode :=
 (.seq (.reg [⟨(some 2), .mv (.const (.bool false)), none⟩,
 ⟨(some 3), .mv (C (0)), none⟩])
 (.seq (.reg [⟨(some 8), .mv (T 0), none⟩,
 ⟨(some 9), .nilc (T 8), none⟩,
 ⟨(some 10), .faddr 0 (T 9), none⟩,
 ⟨(some 11), .load none (T 10), none⟩,
 ⟨(some 12), .call true n_huff_Reader_Take [(T 11), (C (3))], none⟩,
 ⟨(some 7), .mv (T 12), none⟩,
 ⟨(some 13), .ext (T 7) 0, none⟩,
 ⟨(some 14), .ext (T 7) 1, none⟩,
 ⟨(some 4), .mv (T 13), none⟩,
 ⟨(some 5), .mv (T 14), none⟩])
 (.seq (.seq (.reg [⟨(some 15), .mv (T 5), none⟩,
 ⟨(some 16), .un .not (T 15), none⟩])
 (.cond (T 16)
 (.seq (.reg [⟨(some 2), .mv (.const (.bool false)), none⟩,
 ⟨(some 3), .mv (C (2)), none⟩])
 .ret)
 .skip))
 (.seq (.seq (.reg [⟨(some 17), .mv (T 4), none⟩,
 ⟨(some 18), .bin .shr (T 17) (.const (.int .u64 (1))), none⟩])
 (.block 0
 (.seq (.reg [⟨(some 20), .bin .eql (T 18) (C (0)), none⟩,
 ⟨(some 19), .mv (T 20), none⟩])
 (.cond (T 19)
 (.reg [⟨(some 21), .mv (T 0), none⟩,
 ⟨(some 22), .call true n_inflate_unpacker_stored [(T 21)], none⟩,
 ⟨(some 3), .mv (T 22), none⟩])
 (.seq (.reg [⟨(some 24), .bin .eql (T 18) (C (1)), none⟩,
 ⟨(some 23), .mv (T 24), none⟩])
 (.cond (T 23)
 (.seq (.seq (.reg [⟨(some 25), .mv (T 0), none⟩,
 ⟨(some 26), .nilc (T 25), none⟩,
 ⟨(some 27), .faddr 3 (T 26), none⟩,
 ⟨(some 28), .load none (T 27), none⟩,
 ⟨(some 29), .isnilp false (T 28), none⟩])
 (.cond (T 29)
 (.reg [⟨(some 30), .mv (T 0), none⟩,
 ⟨(some 31), .call true n_inflate_fixedCodes [], none⟩,
 ⟨(some 32), .nilc (T 30), none⟩,
 ⟨(some 33), .faddr 3 (T 32), none⟩,
 ⟨none, .store none (T 33) (T 31), none⟩])
 .skip))
 (.reg [⟨(some 34), .mv (T 0), none⟩,
 ⟨(some 35), .mv (T 0), none⟩,
 ⟨(some 36), .nilc (T 35), none⟩,
 ⟨(some 37), .faddr 3 (T 36), none⟩,
 ⟨(some 38), .load none (T 37), none⟩,
 ⟨(some 39), .call true n_inflate_unpacker_symbols [(T 34), (T 38)], none⟩,
 ⟨(some 3), .mv (T 39), none⟩]))
 (.seq (.reg [⟨(some 41), .bin .eql (T 18) (C (2)), none⟩,
 ⟨(some 40), .mv (T 41), none⟩])
 (.cond (T 40)
 (.seq (.reg [⟨(some 6), .mv (.const (.pointer none)), none⟩])
 (.seq (.reg [⟨(some 43), .mv (T 0), none⟩,
 ⟨(some 44), .call true n_inflate_unpacker_toldCodes [(T 43)], none⟩,
 ⟨(some 42), .mv (T 44), none⟩,
 ⟨(some 45), .ext (T 42) 0, none⟩,
 ⟨(some 46), .ext (T 42) 1, none⟩,
 ⟨(some 6), .mv (T 45), none⟩,
 ⟨(some 3), .mv (T 46), none⟩])
 (.seq (.reg [⟨(some 47), .mv (T 3), none⟩,
 ⟨(some 48), .bin .eql (T 47) (C (0)), none⟩])
 (.cond (T 48)
 (.reg [⟨(some 49), .mv (T 0), none⟩,
 ⟨(some 50), .mv (T 6), none⟩,
 ⟨(some 51), .call true n_inflate_unpacker_symbols [(T 49), (T 50)], none⟩,
 ⟨(some 3), .mv (T 51), none⟩])
 .skip))))
 (.reg [⟨(some 3), .mv (C (3)), none⟩])))))))))
 (.seq (.reg [⟨(some 52), .mv (T 4), none⟩,
 ⟨(some 53), .bin .and (T 52) (C (1)), none⟩,
 ⟨(some 54), .bin .eql (T 53) (C (1)), none⟩,
 ⟨(some 55), .mv (T 3), none⟩,
 ⟨(some 2), .mv (T 54), none⟩,
 ⟨(some 3), .mv (T 55), none⟩])
 .ret)))))
theorem e_inflate_unpacker_block : slimC Tryd.prog 56 (Tryd.f10.body.getD .skip) = s_inflate_unpacker_block := by kernel_rfl
theorem r_inflate_unpacker_block : slimRes Tryd.prog Tryd.f10 = some [.tmp 2, .tmp 3] := by kernel_rfl

/-- The slim code of (*drayage/huff.Reader).At. -/
def s_huff_Reader_At : SCode :=
 (.seq (.reg [⟨(some 2), .mv (C (0)), none⟩])
 (.seq (.reg [⟨(some 3), .mv (T 0), none⟩,
 ⟨(some 4), .nilc (T 3), none⟩,
 ⟨(some 5), .faddr 1 (T 4), none⟩,
 ⟨(some 6), .load none (T 5), none⟩,
 ⟨(some 2), .mv (T 6), none⟩])
 .ret))
theorem e_huff_Reader_At : slimC Tryd.prog 7 (Tryd.f11.body.getD .skip) = s_huff_Reader_At := by kernel_rfl
theorem r_huff_Reader_At : slimRes Tryd.prog Tryd.f11 = some [.tmp 2] := by kernel_rfl

/-- The slim code of drayage/drayageref03.Bits. -/
def s_drayageref03_Bits : SCode :=
 (.seq (.reg [⟨(some 2), .mv (.const (.slice none 0 0)), none⟩])
 (.seq (.reg [⟨(some 3), .mv (.const (.slice none 0 0)), none⟩])
 (.seq (.seq (.reg [⟨(some 4), .mv (C (0)), none⟩])
 (.block 0
 (.loop
 (.seq (.seq (.reg [⟨(some 7), .mv (T 4), none⟩,
 ⟨(some 8), .mv (T 0), none⟩,
 ⟨(some 9), .len false (T 8), none⟩,
 ⟨(some 10), .bin .lss (T 7) (T 9), none⟩])
 (.cond (T 10)
 .skip
 (.exit 0)))
 (.seq (.block 1
 (.seq (.reg [⟨(some 13), .mv (T 0), none⟩,
 ⟨(some 14), .mv (T 4), none⟩,
 ⟨(some 15), .iaddr none (T 13) (T 14), none⟩,
 ⟨(some 16), .load none (T 15), none⟩,
 ⟨(some 17), .ci .i64 (T 16), none⟩,
 ⟨(some 5), .mv (T 17), none⟩])
 (.seq (.reg [⟨(some 6), .mv (C (0)), none⟩])
 (.block 2
 (.loop
 (.seq (.seq (.reg [⟨(some 18), .mv (T 6), none⟩,
 ⟨(some 19), .bin .lss (T 18) (C (8)), none⟩])
 (.cond (T 19)
 .skip
 (.exit 2)))
 (.seq (.block 3
 (.seq (.reg [⟨(some 22), .mv (T 3), none⟩,
 ⟨(some 23), .mv (T 5), none⟩,
 ⟨(some 24), .bin .rem (T 23) (C (2)), none⟩,
 ⟨(some 25), .bslice none [(T 24)], none⟩,
 ⟨(some 26), .app none 8 (T 22) (T 25), none⟩,
 ⟨(some 3), .mv (T 26), none⟩])
 (.reg [⟨(some 27), .mv (T 5), none⟩,
 ⟨(some 28), .bin .quo (T 27) (C (2)), none⟩,
 ⟨(some 5), .mv (T 28), none⟩])))
 (.reg [⟨(some 20), .mv (T 6), none⟩,
 ⟨(some 21), .bin .add (T 20) (C (1)), none⟩,
 ⟨(some 6), .mv (T 21), none⟩]))))))))
 (.reg [⟨(some 11), .mv (T 4), none⟩,
 ⟨(some 12), .bin .add (T 11) (C (1)), none⟩,
 ⟨(some 4), .mv (T 12), none⟩]))))))
 (.seq (.reg [⟨(some 29), .mv (T 3), none⟩,
 ⟨(some 2), .mv (T 29), none⟩])
 .ret))))
theorem e_drayageref03_Bits : slimC Tryd.prog 30 (Tryd.f12.body.getD .skip) = s_drayageref03_Bits := by kernel_rfl
theorem r_drayageref03_Bits : slimRes Tryd.prog Tryd.f12 = some [.tmp 2] := by kernel_rfl

/-- The slim code of (*drayage/drayageref04.state).number. -/
def s_drayageref04_state_number : SCode :=
 (.seq (.reg [⟨(some 4), .mv (C (0)), none⟩])
 (.seq (.seq (.reg [⟨(some 5), .mv (T 0), none⟩,
 ⟨(some 6), .nilc (T 5), none⟩,
 ⟨(some 7), .faddr 4 (T 6), none⟩,
 ⟨(some 8), .load none (T 7), none⟩,
 ⟨(some 9), .bin .neq (T 8) (C (0)), none⟩])
 (.cond (T 9)
 (.seq (.reg [⟨(some 4), .mv (C (0)), none⟩])
 .ret)
 .skip))
 (.seq (.seq (.reg [⟨(some 10), .mv (T 1), none⟩,
 ⟨(some 11), .mv (T 0), none⟩,
 ⟨(some 12), .nilc (T 11), none⟩,
 ⟨(some 13), .faddr 0 (T 12), none⟩,
 ⟨(some 14), .load none (T 13), none⟩,
 ⟨(some 15), .len false (T 14), none⟩,
 ⟨(some 16), .mv (T 0), none⟩,
 ⟨(some 17), .nilc (T 16), none⟩,
 ⟨(some 18), .faddr 1 (T 17), none⟩,
 ⟨(some 19), .load none (T 18), none⟩,
 ⟨(some 20), .bin .sub (T 15) (T 19), none⟩,
 ⟨(some 21), .bin .gtr (T 10) (T 20), none⟩])
 (.cond (T 21)
 (.seq (.reg [⟨(some 22), .mv (T 0), none⟩,
 ⟨(some 23), .nilc (T 22), none⟩,
 ⟨(some 24), .faddr 4 (T 23), none⟩,
 ⟨none, .store none (T 24) (C (2)), none⟩])
 (.seq (.reg [⟨(some 4), .mv (C (0)), none⟩])
 .ret))
 .skip))
 (.seq (.reg [⟨(some 25), .mv (T 0), none⟩,
 ⟨(some 26), .mv (T 0), none⟩,
 ⟨(some 27), .nilc (T 26), none⟩,
 ⟨(some 28), .faddr 1 (T 27), none⟩,
 ⟨(some 29), .load none (T 28), none⟩,
 ⟨(some 30), .mv (T 1), none⟩,
 ⟨(some 31), .bin .add (T 29) (T 30), none⟩,
 ⟨(some 32), .nilc (T 25), none⟩,
 ⟨(some 33), .faddr 1 (T 32), none⟩,
 ⟨none, .store none (T 33) (T 31), none⟩])
 (.seq (.reg [⟨(some 34), .mv (T 0), none⟩,
 ⟨(some 35), .nilc (T 34), none⟩,
 ⟨(some 36), .faddr 0 (T 35), none⟩,
 ⟨(some 37), .load none (T 36), none⟩,
 ⟨(some 38), .mv (T 0), none⟩,
 ⟨(some 39), .nilc (T 38), none⟩,
 ⟨(some 40), .faddr 1 (T 39), none⟩,
 ⟨(some 41), .load none (T 40), none⟩,
 ⟨(some 42), .mv (T 1), none⟩,
 ⟨(some 43), .bin .sub (T 41) (T 42), none⟩,
 ⟨(some 44), .mv (T 0), none⟩,
 ⟨(some 45), .nilc (T 44), none⟩,
 ⟨(some 46), .faddr 1 (T 45), none⟩,
 ⟨(some 47), .load none (T 46), none⟩,
 ⟨(some 48), .sl none (T 37) (some (T 43)) (some (T 47)), none⟩,
 ⟨(some 49), .call true n_drayageref03_Number [(T 48)], none⟩,
 ⟨(some 4), .mv (T 49), none⟩])
 .ret)))))
theorem e_drayageref04_state_number : slimC Tryd.prog 50 (Tryd.f13.body.getD .skip) = s_drayageref04_state_number := by kernel_rfl
theorem r_drayageref04_state_number : slimRes Tryd.prog Tryd.f13 = some [.tmp 4] := by kernel_rfl

/-- The slim code of (*drayage/drayageref04.state).stored. -/
def s_drayageref04_state_stored : SCode :=
 (.seq (.block 0
 (.loop
 (.seq (.seq (.reg [⟨(some 5), .mv (T 0), none⟩,
 ⟨(some 6), .nilc (T 5), none⟩,
 ⟨(some 7), .faddr 1 (T 6), none⟩,
 ⟨(some 8), .load none (T 7), none⟩,
 ⟨(some 9), .bin .rem (T 8) (C (8)), none⟩,
 ⟨(some 10), .bin .neq (T 9) (C (0)), none⟩])
 (.cond (T 10)
 .skip
 (.exit 0)))
 (.block 1
 (.reg [⟨(some 11), .mv (T 0), none⟩,
 ⟨(some 12), .mv (T 0), none⟩,
 ⟨(some 13), .nilc (T 12), none⟩,
 ⟨(some 14), .faddr 1 (T 13), none⟩,
 ⟨(some 15), .load none (T 14), none⟩,
 ⟨(some 16), .bin .add (T 15) (C (1)), none⟩,
 ⟨(some 17), .nilc (T 11), none⟩,
 ⟨(some 18), .faddr 1 (T 17), none⟩,
 ⟨none, .store none (T 18) (T 16), none⟩])))))
 (.seq (.reg [⟨(some 19), .mv (T 0), none⟩,
 ⟨(some 20), .call true n_drayageref04_state_number [(T 19), (C (16))], none⟩,
 ⟨(some 2), .mv (T 20), none⟩])
 (.seq (.reg [⟨(some 21), .mv (T 0), none⟩,
 ⟨(some 22), .call true n_drayageref04_state_number [(T 21), (C (16))], none⟩,
 ⟨(some 3), .mv (T 22), none⟩])
 (.seq (.reg [⟨(some 23), .mv (T 0), none⟩,
 ⟨(some 24), .mv (T 3), none⟩,
 ⟨(some 25), .mv (T 2), none⟩,
 ⟨(some 26), .bin .sub (C (65535)) (T 25), none⟩,
 ⟨(some 27), .bin .neq (T 24) (T 26), none⟩,
 ⟨(some 28), .call true n_drayageref04_state_bad [(T 23), (T 27), (C (3))], none⟩])
 (.seq (.seq (.reg [⟨(some 29), .mv (T 0), none⟩,
 ⟨(some 30), .nilc (T 29), none⟩,
 ⟨(some 31), .faddr 4 (T 30), none⟩,
 ⟨(some 32), .load none (T 31), none⟩,
 ⟨(some 33), .bin .neq (T 32) (C (0)), none⟩])
 (.cond (T 33)
 .ret
 .skip))
 (.seq (.seq (.reg [⟨(some 34), .mv (T 2), none⟩,
 ⟨(some 35), .bin .mul (C (8)) (T 34), none⟩,
 ⟨(some 36), .mv (T 0), none⟩,
 ⟨(some 37), .nilc (T 36), none⟩,
 ⟨(some 38), .faddr 0 (T 37), none⟩,
 ⟨(some 39), .load none (T 38), none⟩,
 ⟨(some 40), .len false (T 39), none⟩,
 ⟨(some 41), .mv (T 0), none⟩,
 ⟨(some 42), .nilc (T 41), none⟩,
 ⟨(some 43), .faddr 1 (T 42), none⟩,
 ⟨(some 44), .load none (T 43), none⟩,
 ⟨(some 45), .bin .sub (T 40) (T 44), none⟩,
 ⟨(some 46), .bin .gtr (T 35) (T 45), none⟩])
 (.cond (T 46)
 (.seq (.reg [⟨(some 47), .mv (T 0), none⟩,
 ⟨(some 48), .nilc (T 47), none⟩,
 ⟨(some 49), .faddr 4 (T 48), none⟩,
 ⟨none, .store none (T 49) (C (2)), none⟩])
 .ret)
 .skip))
 (.seq (.seq (.reg [⟨(some 50), .mv (T 2), none⟩,
 ⟨(some 51), .mv (T 0), none⟩,
 ⟨(some 52), .nilc (T 51), none⟩,
 ⟨(some 53), .faddr 3 (T 52), none⟩,
 ⟨(some 54), .load none (T 53), none⟩,
 ⟨(some 55), .mv (T 0), none⟩,
 ⟨(some 56), .nilc (T 55), none⟩,
 ⟨(some 57), .faddr 2 (T 56), none⟩,
 ⟨(some 58), .load none (T 57), none⟩,
 ⟨(some 59), .len false (T 58), none⟩,
 ⟨(some 60), .bin .sub (T 54) (T 59), none⟩,
 ⟨(some 61), .bin .gtr (T 50) (T 60), none⟩])
 (.cond (T 61)
 (.seq (.reg [⟨(some 62), .mv (T 0), none⟩,
 ⟨(some 63), .nilc (T 62), none⟩,
 ⟨(some 64), .faddr 4 (T 63), none⟩,
 ⟨none, .store none (T 64) (C (4)), none⟩])
 .ret)
 .skip))
 (.seq (.reg [⟨(some 4), .mv (C (0)), none⟩])
 (.block 2
 (.loop
 (.seq (.seq (.reg [⟨(some 65), .mv (T 4), none⟩,
 ⟨(some 66), .mv (T 2), none⟩,
 ⟨(some 67), .bin .lss (T 65) (T 66), none⟩])
 (.cond (T 67)
 .skip
 (.exit 2)))
 (.seq (.block 3
 (.reg3 [⟨(some 70), .mv (T 0), none⟩,
 ⟨(some 71), .mv (T 0), none⟩,
 ⟨(some 72), .nilc (T 71), none⟩,
 ⟨(some 73), .faddr 2 (T 72), none⟩,
 ⟨(some 74), .load none (T 73), none⟩,
 ⟨(some 75), .mv (T 0), none⟩,
 ⟨(some 76), .call true n_drayageref04_state_number [(T 75), (C (8))], none⟩]
 [(none, (T 73), 74)]
 [⟨(some 77), .ci .u8 (T 76), none⟩,
 ⟨(some 78), .bslice none [(T 77)], none⟩,
 ⟨(some 79), .app none 1 (T 74) (T 78), none⟩,
 ⟨(some 80), .nilc (T 70), none⟩,
 ⟨(some 81), .faddr 2 (T 80), none⟩,
 ⟨none, .store none (T 81) (T 79), none⟩]))
 (.reg [⟨(some 68), .mv (T 4), none⟩,
 ⟨(some 69), .bin .add (T 68) (C (1)), none⟩,
 ⟨(some 4), .mv (T 69), none⟩])))))))))))))
theorem e_drayageref04_state_stored : slimC Tryd.prog 82 (Tryd.f14.body.getD .skip) = s_drayageref04_state_stored := by kernel_rfl
theorem r_drayageref04_state_stored : slimRes Tryd.prog Tryd.f14 = some [] := by kernel_rfl

/-- The slim code of (*drayage/drayageref04.state).coded. -/
def s_drayageref04_state_coded : SCode :=
 (.seq (.reg [⟨(some 4), .box (T 1), none⟩,
 ⟨(some 5), .box (T 2), none⟩])
 (.block 0
 (.loop
 (.seq (.seq (.reg [⟨(some 11), .mv (T 0), none⟩,
 ⟨(some 12), .nilc (T 11), none⟩,
 ⟨(some 13), .faddr 4 (T 12), none⟩,
 ⟨(some 14), .load none (T 13), none⟩,
 ⟨(some 15), .bin .eql (T 14) (C (0)), none⟩])
 (.cond (T 15)
 .skip
 (.exit 0)))
 (.block 1
 (.seq (.reg [⟨(some 16), .mv (T 0), none⟩,
 ⟨(some 17), .load (some 2) (T 4), none⟩,
 ⟨(some 18), .call true n_drayageref04_state_symbol [(T 16), (T 17)], none⟩,
 ⟨(some 6), .mv (T 18), none⟩])
 (.seq (.seq (.reg [⟨(some 19), .mv (T 0), none⟩,
 ⟨(some 20), .nilc (T 19), none⟩,
 ⟨(some 21), .faddr 4 (T 20), none⟩,
 ⟨(some 22), .load none (T 21), none⟩,
 ⟨(some 23), .bin .neq (T 22) (C (0)), none⟩,
 ⟨(some 24), .mv (T 23), none⟩,
 ⟨(some 25), .mv (T 6), (some (24, false))⟩,
 ⟨(some 26), .bin .eql (T 25) (C (256)), (some (24, false))⟩,
 ⟨(some 27), .pick (T 24) (.const (.bool true)) (T 26), none⟩])
 (.cond (T 27)
 .ret
 .skip))
 (.seq (.seq (.reg [⟨(some 28), .mv (T 6), none⟩,
 ⟨(some 29), .bin .lss (T 28) (C (256)), none⟩])
 (.cond (T 29)
 (.seq (.reg [⟨(some 30), .mv (T 0), none⟩,
 ⟨(some 31), .mv (T 0), none⟩,
 ⟨(some 32), .nilc (T 31), none⟩,
 ⟨(some 33), .faddr 2 (T 32), none⟩,
 ⟨(some 34), .load none (T 33), none⟩,
 ⟨(some 35), .len false (T 34), none⟩,
 ⟨(some 36), .mv (T 0), none⟩,
 ⟨(some 37), .nilc (T 36), none⟩,
 ⟨(some 38), .faddr 3 (T 37), none⟩,
 ⟨(some 39), .load none (T 38), none⟩,
 ⟨(some 40), .bin .geq (T 35) (T 39), none⟩,
 ⟨(some 41), .call true n_drayageref04_state_bad [(T 30), (T 40), (C (4))], none⟩])
 (.seq (.reg [⟨(some 42), .mv (T 0), none⟩,
 ⟨(some 43), .mv (T 0), none⟩,
 ⟨(some 44), .nilc (T 43), none⟩,
 ⟨(some 45), .faddr 2 (T 44), none⟩,
 ⟨(some 46), .load none (T 45), none⟩,
 ⟨(some 47), .mv (T 6), none⟩,
 ⟨(some 48), .ci .u8 (T 47), none⟩,
 ⟨(some 49), .bslice none [(T 48)], none⟩,
 ⟨(some 50), .app none 1 (T 46) (T 49), none⟩,
 ⟨(some 51), .nilc (T 42), none⟩,
 ⟨(some 52), .faddr 2 (T 51), none⟩,
 ⟨none, .store none (T 52) (T 50), none⟩])
 (.exit 1)))
 .skip))
 (.seq (.reg [⟨(some 53), .mv (T 0), none⟩,
 ⟨(some 54), .mv (T 6), none⟩,
 ⟨(some 55), .bin .gtr (T 54) (C (285)), none⟩,
 ⟨(some 56), .call true n_drayageref04_state_bad [(T 53), (T 55), (C (3))], none⟩])
 (.seq (.seq (.reg [⟨(some 57), .mv (T 0), none⟩,
 ⟨(some 58), .nilc (T 57), none⟩,
 ⟨(some 59), .faddr 4 (T 58), none⟩,
 ⟨(some 60), .load none (T 59), none⟩,
 ⟨(some 61), .bin .neq (T 60) (C (0)), none⟩])
 (.cond (T 61)
 .ret
 .skip))
 (.seq (.reg [⟨(some 62), .mv (T 0), none⟩,
 ⟨(some 63), .mv (T 6), none⟩,
 ⟨(some 64), .call true n_drayageref04_state_length [(T 62), (T 63)], none⟩,
 ⟨(some 7), .mv (T 64), none⟩])
 (.seq (.reg [⟨(some 65), .mv (T 0), none⟩,
 ⟨(some 66), .load (some 2) (T 5), none⟩,
 ⟨(some 67), .call true n_drayageref04_state_symbol [(T 65), (T 66)], none⟩,
 ⟨(some 8), .mv (T 67), none⟩])
 (.seq (.reg [⟨(some 68), .mv (T 0), none⟩,
 ⟨(some 69), .mv (T 8), none⟩,
 ⟨(some 70), .bin .gtr (T 69) (C (29)), none⟩,
 ⟨(some 71), .call true n_drayageref04_state_bad [(T 68), (T 70), (C (3))], none⟩])
 (.seq (.seq (.reg [⟨(some 72), .mv (T 0), none⟩,
 ⟨(some 73), .nilc (T 72), none⟩,
 ⟨(some 74), .faddr 4 (T 73), none⟩,
 ⟨(some 75), .load none (T 74), none⟩,
 ⟨(some 76), .bin .neq (T 75) (C (0)), none⟩])
 (.cond (T 76)
 .ret
 .skip))
 (.seq (.reg [⟨(some 77), .mv (T 0), none⟩,
 ⟨(some 78), .mv (T 8), none⟩,
 ⟨(some 79), .call true n_drayageref04_state_distance [(T 77), (T 78)], none⟩,
 ⟨(some 9), .mv (T 79), none⟩])
 (.seq (.reg [⟨(some 80), .mv (T 0), none⟩,
 ⟨(some 81), .mv (T 9), none⟩,
 ⟨(some 82), .mv (T 0), none⟩,
 ⟨(some 83), .nilc (T 82), none⟩,
 ⟨(some 84), .faddr 2 (T 83), none⟩,
 ⟨(some 85), .load none (T 84), none⟩,
 ⟨(some 86), .len false (T 85), none⟩,
 ⟨(some 87), .bin .gtr (T 81) (T 86), none⟩,
 ⟨(some 88), .call true n_drayageref04_state_bad [(T 80), (T 87), (C (3))], none⟩])
 (.seq (.reg [⟨(some 89), .mv (T 0), none⟩,
 ⟨(some 90), .mv (T 7), none⟩,
 ⟨(some 91), .mv (T 0), none⟩,
 ⟨(some 92), .nilc (T 91), none⟩,
 ⟨(some 93), .faddr 3 (T 92), none⟩,
 ⟨(some 94), .load none (T 93), none⟩,
 ⟨(some 95), .mv (T 0), none⟩,
 ⟨(some 96), .nilc (T 95), none⟩,
 ⟨(some 97), .faddr 2 (T 96), none⟩,
 ⟨(some 98), .load none (T 97), none⟩,
 ⟨(some 99), .len false (T 98), none⟩,
 ⟨(some 100), .bin .sub (T 94) (T 99), none⟩,
 ⟨(some 101), .bin .gtr (T 90) (T 100), none⟩,
 ⟨(some 102), .call true n_drayageref04_state_bad [(T 89), (T 101), (C (4))], none⟩])
 (.seq (.reg [⟨(some 10), .mv (C (0)), none⟩])
 (.block 2
 (.loop
 (.seq (.seq (.reg [⟨(some 103), .mv (T 10), none⟩,
 ⟨(some 104), .mv (T 7), none⟩,
 ⟨(some 105), .bin .lss (T 103) (T 104), none⟩,
 ⟨(some 106), .mv (T 105), none⟩,
 ⟨(some 107), .mv (T 0), (some (106, true))⟩,
 ⟨(some 108), .nilc (T 107), (some (106, true))⟩,
 ⟨(some 109), .faddr 4 (T 108), (some (106, true))⟩,
 ⟨(some 110), .load none (T 109), (some (106, true))⟩,
 ⟨(some 111), .bin .eql (T 110) (C (0)), (some (106, true))⟩,
 ⟨(some 112), .pick (T 106) (T 111) (.const (.bool false)), none⟩])
 (.cond (T 112)
 .skip
 (.exit 2)))
 (.seq (.block 3
 (.reg [⟨(some 115), .mv (T 0), none⟩,
 ⟨(some 116), .mv (T 0), none⟩,
 ⟨(some 117), .nilc (T 116), none⟩,
 ⟨(some 118), .faddr 2 (T 117), none⟩,
 ⟨(some 119), .load none (T 118), none⟩,
 ⟨(some 120), .mv (T 0), none⟩,
 ⟨(some 121), .nilc (T 120), none⟩,
 ⟨(some 122), .faddr 2 (T 121), none⟩,
 ⟨(some 123), .load none (T 122), none⟩,
 ⟨(some 124), .mv (T 0), none⟩,
 ⟨(some 125), .nilc (T 124), none⟩,
 ⟨(some 126), .faddr 2 (T 125), none⟩,
 ⟨(some 127), .load none (T 126), none⟩,
 ⟨(some 128), .len false (T 127), none⟩,
 ⟨(some 129), .mv (T 9), none⟩,
 ⟨(some 130), .bin .sub (T 128) (T 129), none⟩,
 ⟨(some 131), .iaddr none (T 123) (T 130), none⟩,
 ⟨(some 132), .load none (T 131), none⟩,
 ⟨(some 133), .bslice none [(T 132)], none⟩,
 ⟨(some 134), .app none 1 (T 119) (T 133), none⟩,
 ⟨(some 135), .nilc (T 115), none⟩,
 ⟨(some 136), .faddr 2 (T 135), none⟩,
 ⟨none, .store none (T 136) (T 134), none⟩]))
 (.reg [⟨(some 113), .mv (T 10), none⟩,
 ⟨(some 114), .bin .add (T 113) (C (1)), none⟩,
 ⟨(some 10), .mv (T 114), none⟩])))))))))))))))))))))))
theorem e_drayageref04_state_coded : slimC Tryd.prog 137 (Tryd.f15.body.getD .skip) = s_drayageref04_state_coded := by kernel_rfl
theorem r_drayageref04_state_coded : slimRes Tryd.prog Tryd.f15 = some [] := by kernel_rfl

/-- The slim code of drayage/drayageref04.fixed. -/
def s_drayageref04_fixed : SCode :=
 (.seq (.reg [⟨(some 0), .alloc [(.slice none 0 0), (.slice none 0 0)], none⟩])
 (.seq (.reg [⟨(some 2), .call true n_drayageref04_times [(C (8)), (C (144))], none⟩,
 ⟨(some 3), .call true n_drayageref04_times [(C (9)), (C (112))], none⟩,
 ⟨(some 4), .app none 8 (T 2) (T 3), none⟩,
 ⟨(some 1), .mv (T 4), none⟩])
 (.seq (.reg [⟨(some 5), .mv (T 1), none⟩,
 ⟨(some 6), .call true n_drayageref04_times [(C (7)), (C (24))], none⟩,
 ⟨(some 7), .app none 8 (T 5) (T 6), none⟩,
 ⟨(some 1), .mv (T 7), none⟩])
 (.seq (.reg [⟨(some 8), .mv (T 1), none⟩,
 ⟨(some 9), .call true n_drayageref04_times [(C (8)), (C (8))], none⟩,
 ⟨(some 10), .app none 8 (T 8) (T 9), none⟩,
 ⟨(some 11), .call true n_drayageref04_made [(T 10)], none⟩,
 ⟨none, .store (some 2) (T 0) (T 11), none⟩])
 .ret))))
theorem e_drayageref04_fixed : slimC Tryd.prog 12 (Tryd.f16.body.getD .skip) = s_drayageref04_fixed := by kernel_rfl
theorem r_drayageref04_fixed : slimRes Tryd.prog Tryd.f16 = some [.cell 0 (some 2)] := by kernel_rfl

/-- The slim code of drayage/drayageref04.made. -/
def s_drayageref04_made : SCode :=
 (.seq (.reg [⟨(some 2), .alloc [(.slice none 0 0), (.slice none 0 0)], none⟩])
 (.seq (.reg [⟨(some 6), .mv (T 0), none⟩,
 ⟨(some 7), .call true n_drayageref03_Codes [(T 6)], none⟩,
 ⟨(some 5), .mv (T 7), none⟩,
 ⟨(some 8), .ext (T 5) 0, none⟩,
 ⟨(some 9), .ext (T 5) 1, none⟩,
 ⟨(some 3), .mv (T 8), none⟩,
 ⟨(some 4), .mv (T 9), none⟩])
 (.seq (.reg [⟨(some 10), .mv (T 0), none⟩,
 ⟨(some 11), .mv (T 3), none⟩,
 ⟨(some 12), .build [(.slice none 0 0), (.slice none 0 0)] [(0, 1, (T 10)), (1, 1, (T 11))], none⟩,
 ⟨none, .store (some 2) (T 2) (T 12), none⟩])
 .ret)))
theorem e_drayageref04_made : slimC Tryd.prog 13 (Tryd.f17.body.getD .skip) = s_drayageref04_made := by kernel_rfl
theorem r_drayageref04_made : slimRes Tryd.prog Tryd.f17 = some [.cell 2 (some 2)] := by kernel_rfl

/-- The slim code of drayage/drayageref04.times. -/
def s_drayageref04_times : SCode :=
 (.seq (.reg [⟨(some 4), .mv (.const (.slice none 0 0)), none⟩])
 (.seq (.reg [⟨(some 5), .mv (.const (.slice none 0 0)), none⟩])
 (.seq (.seq (.reg [⟨(some 6), .mv (C (0)), none⟩])
 (.block 0
 (.loop
 (.seq (.seq (.reg [⟨(some 7), .mv (T 6), none⟩,
 ⟨(some 8), .mv (T 1), none⟩,
 ⟨(some 9), .bin .lss (T 7) (T 8), none⟩])
 (.cond (T 9)
 .skip
 (.exit 0)))
 (.seq (.block 1
 (.reg [⟨(some 12), .mv (T 5), none⟩,
 ⟨(some 13), .mv (T 0), none⟩,
 ⟨(some 14), .bslice none [(T 13)], none⟩,
 ⟨(some 15), .app none 8 (T 12) (T 14), none⟩,
 ⟨(some 5), .mv (T 15), none⟩]))
 (.reg [⟨(some 10), .mv (T 6), none⟩,
 ⟨(some 11), .bin .add (T 10) (C (1)), none⟩,
 ⟨(some 6), .mv (T 11), none⟩]))))))
 (.seq (.reg [⟨(some 16), .mv (T 5), none⟩,
 ⟨(some 4), .mv (T 16), none⟩])
 .ret))))
theorem e_drayageref04_times : slimC Tryd.prog 17 (Tryd.f18.body.getD .skip) = s_drayageref04_times := by kernel_rfl
theorem r_drayageref04_times : slimRes Tryd.prog Tryd.f18 = some [.tmp 4] := by kernel_rfl

/-- The slim code of (*drayage/drayageref04.state).told. -/
def s_drayageref04_state_told : SCode :=
 (.seq (.reg [⟨(some 16), .mv (T 0), none⟩,
 ⟨(some 17), .call true n_drayageref04_state_number [(T 16), (C (5))], none⟩,
 ⟨(some 18), .bin .add (T 17) (C (257)), none⟩,
 ⟨(some 2), .mv (T 18), none⟩])
 (.seq (.reg [⟨(some 19), .mv (T 0), none⟩,
 ⟨(some 20), .call true n_drayageref04_state_number [(T 19), (C (5))], none⟩,
 ⟨(some 21), .bin .add (T 20) (C (1)), none⟩,
 ⟨(some 3), .mv (T 21), none⟩])
 (.seq (.reg [⟨(some 22), .mv (T 0), none⟩,
 ⟨(some 23), .call true n_drayageref04_state_number [(T 22), (C (4))], none⟩,
 ⟨(some 24), .bin .add (T 23) (C (4)), none⟩,
 ⟨(some 4), .mv (T 24), none⟩])
 (.seq (.reg [⟨(some 25), .mv (T 0), none⟩,
 ⟨(some 26), .mv (T 2), none⟩,
 ⟨(some 27), .bin .gtr (T 26) (C (286)), none⟩,
 ⟨(some 28), .mv (T 27), none⟩,
 ⟨(some 29), .mv (T 3), (some (28, false))⟩,
 ⟨(some 30), .bin .gtr (T 29) (C (30)), (some (28, false))⟩,
 ⟨(some 31), .pick (T 28) (.const (.bool true)) (T 30), none⟩,
 ⟨(some 32), .call true n_drayageref04_state_bad [(T 25), (T 31), (C (3))], none⟩])
 (.seq (.reg [⟨(some 33), .bsl none [(C (16)), (C (17)), (C (18)), (C (0)), (C (8)), (C (7)), (C (9)), (C (6)), (C (10)), (C (5)), (C (11)), (C (4)), (C (12)), (C (3)), (C (13)), (C (2)), (C (14)), (C (1)), (C (15))], none⟩,
 ⟨(some 5), .mv (T 33), none⟩])
 (.seq (.reg [⟨(some 34), .call true n_drayageref04_times [(C (0)), (C (19))], none⟩,
 ⟨(some 6), .mv (T 34), none⟩])
 (.seq (.seq (.reg [⟨(some 7), .mv (C (0)), none⟩])
 (.block 0
 (.loop
 (.seq (.seq (.reg [⟨(some 35), .mv (T 7), none⟩,
 ⟨(some 36), .mv (T 4), none⟩,
 ⟨(some 37), .bin .lss (T 35) (T 36), none⟩])
 (.cond (T 37)
 .skip
 (.exit 0)))
 (.seq (.block 1
 (.reg3 [⟨(some 40), .mv (T 6), none⟩,
 ⟨(some 41), .mv (T 5), none⟩,
 ⟨(some 42), .mv (T 7), none⟩,
 ⟨(some 43), .iaddr none (T 41) (T 42), none⟩,
 ⟨(some 44), .load none (T 43), none⟩,
 ⟨(some 45), .mv (T 0), none⟩,
 ⟨(some 46), .call true n_drayageref04_state_number [(T 45), (C (3))], none⟩]
 [(none, (T 43), 44)]
 [⟨(some 47), .iaddr none (T 40) (T 44), none⟩,
 ⟨none, .store none (T 47) (T 46), none⟩]))
 (.reg [⟨(some 38), .mv (T 7), none⟩,
 ⟨(some 39), .bin .add (T 38) (C (1)), none⟩,
 ⟨(some 7), .mv (T 39), none⟩]))))))
 (.seq (.reg [⟨(some 48), .mv (T 0), none⟩,
 ⟨(some 49), .mv (T 6), none⟩,
 ⟨(some 50), .call true n_drayageref03_Full [(T 49)], none⟩,
 ⟨(some 51), .un .not (T 50), none⟩,
 ⟨(some 52), .call true n_drayageref04_state_bad [(T 48), (T 51), (C (3))], none⟩])
 (.seq (.seq (.reg [⟨(some 53), .mv (T 0), none⟩,
 ⟨(some 54), .nilc (T 53), none⟩,
 ⟨(some 55), .faddr 4 (T 54), none⟩,
 ⟨(some 56), .load none (T 55), none⟩,
 ⟨(some 57), .bin .neq (T 56) (C (0)), none⟩])
 (.cond (T 57)
 .ret
 .skip))
 (.seq (.reg [⟨(some 58), .mv (T 6), none⟩,
 ⟨(some 59), .call true n_drayageref04_made [(T 58)], none⟩,
 ⟨(some 8), .alloc [(.slice none 0 0), (.slice none 0 0)], none⟩,
 ⟨none, .store (some 2) (T 8) (T 59), none⟩])
 (.seq (.reg [⟨(some 9), .mv (.const (.slice none 0 0)), none⟩])
 (.seq (.block 2
 (.loop
 (.seq (.seq (.reg [⟨(some 60), .mv (T 9), none⟩,
 ⟨(some 61), .len false (T 60), none⟩,
 ⟨(some 62), .mv (T 2), none⟩,
 ⟨(some 63), .mv (T 3), none⟩,
 ⟨(some 64), .bin .add (T 62) (T 63), none⟩,
 ⟨(some 65), .bin .lss (T 61) (T 64), none⟩,
 ⟨(some 66), .mv (T 65), none⟩,
 ⟨(some 67), .mv (T 0), (some (66, true))⟩,
 ⟨(some 68), .nilc (T 67), (some (66, true))⟩,
 ⟨(some 69), .faddr 4 (T 68), (some (66, true))⟩,
 ⟨(some 70), .load none (T 69), (some (66, true))⟩,
 ⟨(some 71), .bin .eql (T 70) (C (0)), (some (66, true))⟩,
 ⟨(some 72), .pick (T 66) (T 71) (.const (.bool false)), none⟩])
 (.cond (T 72)
 .skip
 (.exit 2)))
 (.block 3
 (.seq (.reg [⟨(some 73), .mv (T 0), none⟩,
 ⟨(some 74), .load (some 2) (T 8), none⟩,
 ⟨(some 75), .call true n_drayageref04_state_symbol [(T 73), (T 74)], none⟩,
 ⟨(some 10), .mv (T 75), none⟩])
 (.seq (.reg [⟨(some 76), .mv (T 10), none⟩,
 ⟨(some 11), .mv (T 76), none⟩])
 (.seq (.reg [⟨(some 12), .mv (C (1)), none⟩])
 (.seq (.seq (.reg [⟨(some 77), .mv (T 10), none⟩,
 ⟨(some 78), .bin .eql (T 77) (C (16)), none⟩])
 (.cond (T 78)
 (.seq (.reg [⟨(some 79), .mv (T 0), none⟩,
 ⟨(some 80), .mv (T 9), none⟩,
 ⟨(some 81), .len false (T 80), none⟩,
 ⟨(some 82), .bin .eql (T 81) (C (0)), none⟩,
 ⟨(some 83), .call true n_drayageref04_state_bad [(T 79), (T 82), (C (3))], none⟩])
 (.seq (.reg [⟨(some 11), .mv (C (0)), none⟩])
 (.seq (.seq (.reg [⟨(some 84), .mv (T 9), none⟩,
 ⟨(some 85), .len false (T 84), none⟩,
 ⟨(some 86), .bin .gtr (T 85) (C (0)), none⟩])
 (.cond (T 86)
 (.reg [⟨(some 87), .mv (T 9), none⟩,
 ⟨(some 88), .mv (T 9), none⟩,
 ⟨(some 89), .len false (T 88), none⟩,
 ⟨(some 90), .bin .sub (T 89) (C (1)), none⟩,
 ⟨(some 91), .iaddr none (T 87) (T 90), none⟩,
 ⟨(some 92), .load none (T 91), none⟩,
 ⟨(some 11), .mv (T 92), none⟩])
 .skip))
 (.reg [⟨(some 93), .mv (T 0), none⟩,
 ⟨(some 94), .call true n_drayageref04_state_number [(T 93), (C (2))], none⟩,
 ⟨(some 95), .bin .add (C (3)) (T 94), none⟩,
 ⟨(some 12), .mv (T 95), none⟩]))))
 .skip))
 (.seq (.seq (.reg [⟨(some 96), .mv (T 10), none⟩,
 ⟨(some 97), .bin .eql (T 96) (C (17)), none⟩])
 (.cond (T 97)
 (.seq (.reg [⟨(some 11), .mv (C (0)), none⟩])
 (.reg [⟨(some 98), .mv (T 0), none⟩,
 ⟨(some 99), .call true n_drayageref04_state_number [(T 98), (C (3))], none⟩,
 ⟨(some 100), .bin .add (C (3)) (T 99), none⟩,
 ⟨(some 12), .mv (T 100), none⟩]))
 .skip))
 (.seq (.seq (.reg [⟨(some 101), .mv (T 10), none⟩,
 ⟨(some 102), .bin .eql (T 101) (C (18)), none⟩])
 (.cond (T 102)
 (.seq (.reg [⟨(some 11), .mv (C (0)), none⟩])
 (.reg [⟨(some 103), .mv (T 0), none⟩,
 ⟨(some 104), .call true n_drayageref04_state_number [(T 103), (C (7))], none⟩,
 ⟨(some 105), .bin .add (C (11)) (T 104), none⟩,
 ⟨(some 12), .mv (T 105), none⟩]))
 .skip))
 (.seq (.reg [⟨(some 106), .mv (T 0), none⟩,
 ⟨(some 107), .mv (T 12), none⟩,
 ⟨(some 108), .mv (T 2), none⟩,
 ⟨(some 109), .mv (T 3), none⟩,
 ⟨(some 110), .bin .add (T 108) (T 109), none⟩,
 ⟨(some 111), .mv (T 9), none⟩,
 ⟨(some 112), .len false (T 111), none⟩,
 ⟨(some 113), .bin .sub (T 110) (T 112), none⟩,
 ⟨(some 114), .bin .gtr (T 107) (T 113), none⟩,
 ⟨(some 115), .call true n_drayageref04_state_bad [(T 106), (T 114), (C (3))], none⟩])
 (.reg [⟨(some 116), .mv (T 9), none⟩,
 ⟨(some 117), .mv (T 11), none⟩,
 ⟨(some 118), .mv (T 12), none⟩,
 ⟨(some 119), .call true n_drayageref04_times [(T 117), (T 118)], none⟩,
 ⟨(some 120), .app none 8 (T 116) (T 119), none⟩,
 ⟨(some 9), .mv (T 120), none⟩]))))))))))))
 (.seq (.seq (.reg [⟨(some 121), .mv (T 0), none⟩,
 ⟨(some 122), .nilc (T 121), none⟩,
 ⟨(some 123), .faddr 4 (T 122), none⟩,
 ⟨(some 124), .load none (T 123), none⟩,
 ⟨(some 125), .bin .neq (T 124) (C (0)), none⟩])
 (.cond (T 125)
 .ret
 .skip))
 (.seq (.reg [⟨(some 13), .mv (C (0)), none⟩])
 (.seq (.reg [⟨(some 14), .mv (C (0)), none⟩])
 (.seq (.seq (.reg [⟨(some 126), .mv (T 2), none⟩,
 ⟨(some 15), .mv (T 126), none⟩])
 (.block 4
 (.loop
 (.seq (.seq (.reg [⟨(some 127), .mv (T 15), none⟩,
 ⟨(some 128), .mv (T 2), none⟩,
 ⟨(some 129), .mv (T 3), none⟩,
 ⟨(some 130), .bin .add (T 128) (T 129), none⟩,
 ⟨(some 131), .bin .lss (T 127) (T 130), none⟩])
 (.cond (T 131)
 .skip
 (.exit 4)))
 (.seq (.block 5
 (.seq (.seq (.reg [⟨(some 134), .mv (T 9), none⟩,
 ⟨(some 135), .mv (T 15), none⟩,
 ⟨(some 136), .iaddr none (T 134) (T 135), none⟩,
 ⟨(some 137), .load none (T 136), none⟩,
 ⟨(some 138), .bin .gtr (T 137) (C (0)), none⟩])
 (.cond (T 138)
 (.reg [⟨(some 139), .mv (T 13), none⟩,
 ⟨(some 140), .bin .add (T 139) (C (1)), none⟩,
 ⟨(some 13), .mv (T 140), none⟩])
 .skip))
 (.seq (.reg [⟨(some 141), .mv (T 9), none⟩,
 ⟨(some 142), .mv (T 15), none⟩,
 ⟨(some 143), .iaddr none (T 141) (T 142), none⟩,
 ⟨(some 144), .load none (T 143), none⟩,
 ⟨(some 145), .mv (T 14), none⟩,
 ⟨(some 146), .bin .gtr (T 144) (T 145), none⟩])
 (.cond (T 146)
 (.reg [⟨(some 147), .mv (T 9), none⟩,
 ⟨(some 148), .mv (T 15), none⟩,
 ⟨(some 149), .iaddr none (T 147) (T 148), none⟩,
 ⟨(some 150), .load none (T 149), none⟩,
 ⟨(some 14), .mv (T 150), none⟩])
 .skip))))
 (.reg [⟨(some 132), .mv (T 15), none⟩,
 ⟨(some 133), .bin .add (T 132) (C (1)), none⟩,
 ⟨(some 15), .mv (T 133), none⟩]))))))
 (.seq (.seq (.reg [⟨(some 151), .mv (T 9), none⟩,
 ⟨(some 152), .iaddr none (T 151) (C (256)), none⟩,
 ⟨(some 153), .load none (T 152), none⟩,
 ⟨(some 154), .bin .eql (T 153) (C (0)), none⟩,
 ⟨(some 155), .mv (T 154), none⟩,
 ⟨(some 156), .mv (T 9), (some (155, false))⟩,
 ⟨(some 157), .mv (T 2), (some (155, false))⟩,
 ⟨(some 158), .sl none (T 156) none (some (T 157)), (some (155, false))⟩,
 ⟨(some 159), .call true n_drayageref03_Full [(T 158)], (some (155, false))⟩,
 ⟨(some 160), .un .not (T 159), (some (155, false))⟩,
 ⟨(some 161), .pick (T 155) (.const (.bool true)) (T 160), none⟩,
 ⟨(some 162), .mv (T 161), none⟩,
 ⟨(some 163), .mv (T 9), (some (162, false))⟩,
 ⟨(some 164), .mv (T 2), (some (162, false))⟩,
 ⟨(some 165), .sl none (T 163) (some (T 164)) none, (some (162, false))⟩,
 ⟨(some 166), .call true n_drayageref03_Full [(T 165)], (some (162, false))⟩,
 ⟨(some 167), .un .not (T 166), (some (162, false))⟩,
 ⟨(some 168), .mv (T 167), (some (162, false))⟩,
 ⟨(some 169), .mv (T 13), (some (168, true))⟩,
 ⟨(some 170), .bin .gtr (T 169) (C (1)), (some (168, true))⟩,
 ⟨(some 171), .mv (T 170), (some (168, true))⟩,
 ⟨(some 172), .mv (T 14), (some (171, false))⟩,
 ⟨(some 173), .bin .gtr (T 172) (C (1)), (some (171, false))⟩,
 ⟨(some 174), .pick (T 171) (.const (.bool true)) (T 173), (some (168, true))⟩,
 ⟨(some 175), .pick (T 168) (T 174) (.const (.bool false)), (some (162, false))⟩,
 ⟨(some 176), .pick (T 162) (.const (.bool true)) (T 175), none⟩])
 (.cond (T 176)
 (.seq (.reg [⟨(some 177), .mv (T 0), none⟩,
 ⟨(some 178), .nilc (T 177), none⟩,
 ⟨(some 179), .faddr 4 (T 178), none⟩,
 ⟨none, .store none (T 179) (C (3)), none⟩])
 .ret)
 .skip))
 (.reg [⟨(some 180), .mv (T 0), none⟩,
 ⟨(some 181), .mv (T 9), none⟩,
 ⟨(some 182), .mv (T 2), none⟩,
 ⟨(some 183), .sl none (T 181) none (some (T 182)), none⟩,
 ⟨(some 184), .call true n_drayageref04_made [(T 183)], none⟩,
 ⟨(some 185), .mv (T 9), none⟩,
 ⟨(some 186), .mv (T 2), none⟩,
 ⟨(some 187), .sl none (T 185) (some (T 186)) none, none⟩,
 ⟨(some 188), .call true n_drayageref04_made [(T 187)], none⟩,
 ⟨(some 189), .call true n_drayageref04_state_coded [(T 180), (T 184), (T 188)], none⟩]))))))))))))))))))
theorem e_drayageref04_state_told : slimC Tryd.prog 190 (Tryd.f19.body.getD .skip) = s_drayageref04_state_told := by kernel_rfl
theorem r_drayageref04_state_told : slimRes Tryd.prog Tryd.f19 = some [] := by kernel_rfl

/-- The slim code of bytes.Clone. -/
def s_bytes_Clone : SCode :=
 (.seq (.reg [⟨(some 2), .mv (.const (.slice none 0 0)), none⟩])
 (.seq (.seq (.reg [⟨(some 3), .mv (T 0), none⟩,
 ⟨(some 4), .isnil false (T 3), none⟩])
 (.cond (T 4)
 (.seq (.reg [⟨(some 2), .mv (.const (.slice none 0 0)), none⟩])
 .ret)
 .skip))
 (.seq (.reg [⟨(some 5), .emp none, none⟩,
 ⟨(some 6), .mv (T 0), none⟩,
 ⟨(some 7), .app none 1 (T 5) (T 6), none⟩,
 ⟨(some 2), .mv (T 7), none⟩])
 .ret)))
theorem e_bytes_Clone : slimC Tryd.prog 8 (Tryd.f20.body.getD .skip) = s_bytes_Clone := by kernel_rfl
theorem r_bytes_Clone : slimRes Tryd.prog Tryd.f20 = some [.tmp 2] := by kernel_rfl

/-- The slim code of (*drayage/huff.Reader).Take. -/
def s_huff_Reader_Take : SCode :=
 (.seq (.reg [⟨(some 4), .mv (C (0)), none⟩,
 ⟨(some 5), .mv (.const (.bool false)), none⟩])
 (.seq (.seq (.reg [⟨(some 8), .mv (T 1), none⟩,
 ⟨(some 9), .bin .lss (T 8) (C (0)), none⟩,
 ⟨(some 10), .mv (T 9), none⟩,
 ⟨(some 11), .mv (T 1), (some (10, false))⟩,
 ⟨(some 12), .bin .gtr (T 11) (C (24)), (some (10, false))⟩,
 ⟨(some 13), .pick (T 10) (.const (.bool true)) (T 12), none⟩,
 ⟨(some 14), .mv (T 13), none⟩,
 ⟨(some 15), .mv (T 1), (some (14, false))⟩,
 ⟨(some 16), .mv (T 0), (some (14, false))⟩,
 ⟨(some 17), .call true n_huff_Reader_left [(T 16)], (some (14, false))⟩,
 ⟨(some 18), .bin .gtr (T 15) (T 17), (some (14, false))⟩,
 ⟨(some 19), .pick (T 14) (.const (.bool true)) (T 18), none⟩])
 (.cond (T 19)
 (.seq (.reg [⟨(some 4), .mv (C (0)), none⟩,
 ⟨(some 5), .mv (.const (.bool false)), none⟩])
 .ret)
 .skip))
 (.seq (.reg [⟨(some 6), .mv (C (0)), none⟩])
 (.seq (.seq (.reg [⟨(some 20), .mv (T 1), none⟩,
 ⟨(some 21), .mv (C (0)), none⟩])
 (.block 0
 (.loop
 (.seq (.reg [⟨(some 22), .bin .lss (T 21) (T 20), none⟩])
 (.seq (.cond (T 22)
 .skip
 (.exit 0))
 (.seq (.block 1
 (.seq (.reg [⟨(some 23), .mv (T 21), none⟩,
 ⟨(some 7), .mv (T 23), none⟩])
 (.reg [⟨(some 24), .mv (T 6), none⟩,
 ⟨(some 25), .mv (T 0), none⟩,
 ⟨(some 26), .call true n_huff_Reader_bit [(T 25)], none⟩,
 ⟨(some 27), .mv (T 7), none⟩,
 ⟨(some 28), .bin .shl (T 26) (T 27), none⟩,
 ⟨(some 29), .bin .or (T 24) (T 28), none⟩,
 ⟨(some 6), .mv (T 29), none⟩])))
 (.reg [⟨(some 30), .bin .add (T 21) (C (1)), none⟩,
 ⟨(some 21), .mv (T 30), none⟩])))))))
 (.seq (.reg [⟨(some 31), .mv (T 6), none⟩,
 ⟨(some 4), .mv (T 31), none⟩,
 ⟨(some 5), .mv (.const (.bool true)), none⟩])
 .ret)))))
theorem e_huff_Reader_Take : slimC Tryd.prog 32 (Tryd.f21.body.getD .skip) = s_huff_Reader_Take := by kernel_rfl
theorem r_huff_Reader_Take : slimRes Tryd.prog Tryd.f21 = some [.tmp 4, .tmp 5] := by kernel_rfl

/-- The slim code of (*drayage/inflate.unpacker).stored. -/
def s_inflate_unpacker_stored : SCode :=
 (.seq (.reg [⟨(some 2), .mv (C (0)), none⟩])
 (.seq (.reg [⟨(some 7), .mv (T 0), none⟩,
 ⟨(some 8), .nilc (T 7), none⟩,
 ⟨(some 9), .faddr 0 (T 8), none⟩,
 ⟨(some 10), .load none (T 9), none⟩,
 ⟨(some 11), .call true n_huff_Reader_Align [(T 10)], none⟩])
 (.seq (.reg [⟨(some 13), .mv (T 0), none⟩,
 ⟨(some 14), .nilc (T 13), none⟩,
 ⟨(some 15), .faddr 0 (T 14), none⟩,
 ⟨(some 16), .load none (T 15), none⟩,
 ⟨(some 17), .call true n_huff_Reader_Take [(T 16), (C (16))], none⟩,
 ⟨(some 12), .mv (T 17), none⟩,
 ⟨(some 18), .ext (T 12) 0, none⟩,
 ⟨(some 19), .ext (T 12) 1, none⟩,
 ⟨(some 3), .mv (T 18), none⟩,
 ⟨(some 4), .mv (T 19), none⟩])
 (.seq (.seq (.reg [⟨(some 20), .mv (T 4), none⟩,
 ⟨(some 21), .un .not (T 20), none⟩])
 (.cond (T 21)
 (.seq (.reg [⟨(some 2), .mv (C (2)), none⟩])
 .ret)
 .skip))
 (.seq (.reg [⟨(some 23), .mv (T 0), none⟩,
 ⟨(some 24), .nilc (T 23), none⟩,
 ⟨(some 25), .faddr 0 (T 24), none⟩,
 ⟨(some 26), .load none (T 25), none⟩,
 ⟨(some 27), .call true n_huff_Reader_Take [(T 26), (C (16))], none⟩,
 ⟨(some 22), .mv (T 27), none⟩,
 ⟨(some 28), .ext (T 22) 0, none⟩,
 ⟨(some 29), .ext (T 22) 1, none⟩,
 ⟨(some 5), .mv (T 28), none⟩,
 ⟨(some 4), .mv (T 29), none⟩])
 (.seq (.seq (.reg [⟨(some 30), .mv (T 4), none⟩,
 ⟨(some 31), .un .not (T 30), none⟩])
 (.cond (T 31)
 (.seq (.reg [⟨(some 2), .mv (C (2)), none⟩])
 .ret)
 .skip))
 (.seq (.seq (.reg [⟨(some 32), .mv (T 3), none⟩,
 ⟨(some 33), .mv (T 5), none⟩,
 ⟨(some 34), .bin .add (T 32) (T 33), none⟩,
 ⟨(some 35), .bin .neq (T 34) (C (65535)), none⟩])
 (.cond (T 35)
 (.seq (.reg [⟨(some 2), .mv (C (3)), none⟩])
 .ret)
 .skip))
 (.seq (.reg [⟨(some 37), .mv (T 0), none⟩,
 ⟨(some 38), .nilc (T 37), none⟩,
 ⟨(some 39), .faddr 0 (T 38), none⟩,
 ⟨(some 40), .load none (T 39), none⟩,
 ⟨(some 41), .mv (T 3), none⟩,
 ⟨(some 42), .call true n_huff_Reader_Bytes [(T 40), (T 41)], none⟩,
 ⟨(some 36), .mv (T 42), none⟩,
 ⟨(some 43), .ext (T 36) 0, none⟩,
 ⟨(some 44), .ext (T 36) 1, none⟩,
 ⟨(some 6), .mv (T 43), none⟩,
 ⟨(some 4), .mv (T 44), none⟩])
 (.seq (.seq (.reg [⟨(some 45), .mv (T 4), none⟩,
 ⟨(some 46), .un .not (T 45), none⟩])
 (.cond (T 46)
 (.seq (.reg [⟨(some 2), .mv (C (2)), none⟩])
 .ret)
 .skip))
 (.seq (.seq (.reg [⟨(some 47), .mv (T 3), none⟩,
 ⟨(some 48), .mv (T 0), none⟩,
 ⟨(some 49), .call true n_inflate_unpacker_room [(T 48)], none⟩,
 ⟨(some 50), .bin .gtr (T 47) (T 49), none⟩])
 (.cond (T 50)
 (.seq (.reg [⟨(some 2), .mv (C (4)), none⟩])
 .ret)
 .skip))
 (.seq (.reg [⟨(some 51), .mv (T 0), none⟩,
 ⟨(some 52), .mv (T 0), none⟩,
 ⟨(some 53), .nilc (T 52), none⟩,
 ⟨(some 54), .faddr 1 (T 53), none⟩,
 ⟨(some 55), .load none (T 54), none⟩,
 ⟨(some 56), .mv (T 6), none⟩,
 ⟨(some 57), .app none 1 (T 55) (T 56), none⟩,
 ⟨(some 58), .nilc (T 51), none⟩,
 ⟨(some 59), .faddr 1 (T 58), none⟩,
 ⟨none, .store none (T 59) (T 57), none⟩])
 (.seq (.reg [⟨(some 2), .mv (C (0)), none⟩])
 .ret))))))))))))
theorem e_inflate_unpacker_stored : slimC Tryd.prog 60 (Tryd.f22.body.getD .skip) = s_inflate_unpacker_stored := by kernel_rfl
theorem r_inflate_unpacker_stored : slimRes Tryd.prog Tryd.f22 = some [.tmp 2] := by kernel_rfl

/-- The slim code of drayage/inflate.fixedCodes. -/
def s_inflate_fixedCodes : SCode :=
 (.seq (.reg [⟨(some 0), .mv (.const (.pointer none)), none⟩])
 (.seq (.reg [⟨(some 6), .bsl none [(C (8))], none⟩,
 ⟨(some 7), .call true n_slices_Repeatintint [(T 6), (C (144))], none⟩,
 ⟨(some 8), .bsl none [(C (9))], none⟩,
 ⟨(some 9), .call true n_slices_Repeatintint [(T 8), (C (112))], none⟩,
 ⟨(some 10), .bsl none [(C (7))], none⟩,
 ⟨(some 11), .call true n_slices_Repeatintint [(T 10), (C (24))], none⟩,
 ⟨(some 12), .bsl none [(C (8))], none⟩,
 ⟨(some 13), .call true n_slices_Repeatintint [(T 12), (C (8))], none⟩,
 ⟨(some 14), .bsl none [(T 7), (T 9), (T 11), (T 13)], none⟩,
 ⟨(some 15), .call true n_slices_Concatintint [(T 14)], none⟩,
 ⟨(some 16), .call true n_huff_NewTree [(T 15)], none⟩,
 ⟨(some 5), .mv (T 16), none⟩,
 ⟨(some 17), .ext (T 5) 0, none⟩,
 ⟨(some 18), .ext (T 5) 1, none⟩,
 ⟨(some 1), .mv (T 17), none⟩,
 ⟨(some 2), .mv (T 18), none⟩])
 (.seq (.reg [⟨(some 20), .bsl none [(C (5))], none⟩,
 ⟨(some 21), .call true n_slices_Repeatintint [(T 20), (C (32))], none⟩,
 ⟨(some 22), .call true n_huff_NewTree [(T 21)], none⟩,
 ⟨(some 19), .mv (T 22), none⟩,
 ⟨(some 23), .ext (T 19) 0, none⟩,
 ⟨(some 24), .ext (T 19) 1, none⟩,
 ⟨(some 3), .mv (T 23), none⟩,
 ⟨(some 4), .mv (T 24), none⟩])
 (.seq (.reg [⟨(some 25), .mv (T 1), none⟩,
 ⟨(some 26), .mv (T 3), none⟩,
 ⟨(some 27), .build [(.pointer none), (.pointer none)] [(0, 1, (T 25)), (1, 1, (T 26))], none⟩,
 ⟨(some 28), .box (T 27), none⟩,
 ⟨(some 0), .mv (T 28), none⟩])
 .ret))))
theorem e_inflate_fixedCodes : slimC Tryd.prog 29 (Tryd.f23.body.getD .skip) = s_inflate_fixedCodes := by kernel_rfl
theorem r_inflate_fixedCodes : slimRes Tryd.prog Tryd.f23 = some [.tmp 0] := by kernel_rfl

/-- The slim code of (*drayage/inflate.unpacker).symbols. -/
def s_inflate_unpacker_symbols : SCode :=
 (.seq (.reg [⟨(some 4), .mv (C (0)), none⟩])
 (.block 0
 (.loop
 (.block 1
 (.seq (.reg [⟨(some 8), .mv (T 1), none⟩,
 ⟨(some 9), .nilc (T 8), none⟩,
 ⟨(some 10), .faddr 0 (T 9), none⟩,
 ⟨(some 11), .load none (T 10), none⟩,
 ⟨(some 12), .mv (T 0), none⟩,
 ⟨(some 13), .nilc (T 12), none⟩,
 ⟨(some 14), .faddr 0 (T 13), none⟩,
 ⟨(some 15), .load none (T 14), none⟩,
 ⟨(some 16), .call true n_huff_Tree_Next [(T 11), (T 15)], none⟩,
 ⟨(some 7), .mv (T 16), none⟩,
 ⟨(some 17), .ext (T 7) 0, none⟩,
 ⟨(some 18), .ext (T 7) 1, none⟩,
 ⟨(some 5), .mv (T 17), none⟩,
 ⟨(some 6), .mv (T 18), none⟩])
 (.seq (.block 2
 (.seq (.reg [⟨(some 29), .mv (T 6), none⟩,
 ⟨(some 30), .bin .neq (T 29) (C (0)), none⟩,
 ⟨(some 28), .mv (T 30), none⟩])
 (.cond (T 28)
 (.seq (.reg [⟨(some 31), .mv (T 6), none⟩,
 ⟨(some 4), .mv (T 31), none⟩])
 .ret)
 (.seq (.reg [⟨(some 33), .mv (T 5), none⟩,
 ⟨(some 34), .bin .lss (T 33) (C (256)), none⟩,
 ⟨(some 32), .mv (T 34), none⟩])
 (.cond (T 32)
 (.reg [⟨(some 35), .mv (T 0), none⟩,
 ⟨(some 36), .mv (T 5), none⟩,
 ⟨(some 37), .ci .u8 (T 36), none⟩,
 ⟨(some 38), .call true n_inflate_unpacker_literal [(T 35), (T 37)], none⟩,
 ⟨(some 6), .mv (T 38), none⟩])
 (.seq (.reg [⟨(some 40), .mv (T 5), none⟩,
 ⟨(some 41), .bin .eql (T 40) (C (256)), none⟩,
 ⟨(some 39), .mv (T 41), none⟩])
 (.cond (T 39)
 (.seq (.reg [⟨(some 4), .mv (C (0)), none⟩])
 .ret)
 (.reg [⟨(some 19), .mv (T 0), none⟩,
 ⟨(some 20), .mv (T 5), none⟩,
 ⟨(some 21), .bin .sub (T 20) (C (256)), none⟩,
 ⟨(some 22), .bin .sub (T 21) (C (1)), none⟩,
 ⟨(some 23), .mv (T 1), none⟩,
 ⟨(some 24), .nilc (T 23), none⟩,
 ⟨(some 25), .faddr 1 (T 24), none⟩,
 ⟨(some 26), .load none (T 25), none⟩,
 ⟨(some 27), .call true n_inflate_unpacker_run [(T 19), (T 22), (T 26)], none⟩,
 ⟨(some 6), .mv (T 27), none⟩]))))))))
 (.seq (.reg [⟨(some 42), .mv (T 6), none⟩,
 ⟨(some 43), .bin .neq (T 42) (C (0)), none⟩])
 (.cond (T 43)
 (.seq (.reg [⟨(some 44), .mv (T 6), none⟩,
 ⟨(some 4), .mv (T 44), none⟩])
 .ret)
 .skip))))))))
theorem e_inflate_unpacker_symbols : slimC Tryd.prog 45 (Tryd.f24.body.getD .skip) = s_inflate_unpacker_symbols := by kernel_rfl
theorem r_inflate_unpacker_symbols : slimRes Tryd.prog Tryd.f24 = some [.tmp 4] := by kernel_rfl

/-- The slim code of (*drayage/inflate.unpacker).toldCodes. -/
def s_inflate_unpacker_toldCodes : SCode :=
 (.seq (.reg [⟨(some 2), .mv (.const (.pointer none)), none⟩,
 ⟨(some 3), .mv (C (0)), none⟩])
 (.seq (.reg [⟨(some 12), .mv (T 0), none⟩,
 ⟨(some 13), .nilc (T 12), none⟩,
 ⟨(some 14), .faddr 0 (T 13), none⟩,
 ⟨(some 15), .load none (T 14), none⟩,
 ⟨(some 16), .call true n_huff_Reader_Take [(T 15), (C (14))], none⟩,
 ⟨(some 11), .mv (T 16), none⟩,
 ⟨(some 17), .ext (T 11) 0, none⟩,
 ⟨(some 18), .ext (T 11) 1, none⟩,
 ⟨(some 4), .mv (T 17), none⟩,
 ⟨(some 5), .mv (T 18), none⟩])
 (.seq (.seq (.reg [⟨(some 19), .mv (T 5), none⟩,
 ⟨(some 20), .un .not (T 19), none⟩])
 (.cond (T 20)
 (.seq (.reg [⟨(some 2), .mv (.const (.pointer none)), none⟩,
 ⟨(some 3), .mv (C (2)), none⟩])
 .ret)
 .skip))
 (.seq (.reg [⟨(some 21), .mv (T 4), none⟩,
 ⟨(some 22), .bin .and (T 21) (C (31)), none⟩,
 ⟨(some 23), .bin .add (T 22) (C (257)), none⟩,
 ⟨(some 24), .mv (T 4), none⟩,
 ⟨(some 25), .bin .shr (T 24) (.const (.int .u64 (5))), none⟩,
 ⟨(some 26), .bin .and (T 25) (C (31)), none⟩,
 ⟨(some 27), .bin .add (T 26) (C (1)), none⟩,
 ⟨(some 6), .mv (T 23), none⟩,
 ⟨(some 7), .mv (T 27), none⟩])
 (.seq (.seq (.reg [⟨(some 28), .mv (T 6), none⟩,
 ⟨(some 29), .bin .gtr (T 28) (C (286)), none⟩,
 ⟨(some 30), .mv (T 29), none⟩,
 ⟨(some 31), .mv (T 7), (some (30, false))⟩,
 ⟨(some 32), .bin .gtr (T 31) (C (30)), (some (30, false))⟩,
 ⟨(some 33), .pick (T 30) (.const (.bool true)) (T 32), none⟩])
 (.cond (T 33)
 (.seq (.reg [⟨(some 2), .mv (.const (.pointer none)), none⟩,
 ⟨(some 3), .mv (C (3)), none⟩])
 .ret)
 .skip))
 (.seq (.reg [⟨(some 35), .mv (T 0), none⟩,
 ⟨(some 36), .mv (T 4), none⟩,
 ⟨(some 37), .bin .shr (T 36) (.const (.int .u64 (10))), none⟩,
 ⟨(some 38), .bin .add (T 37) (C (4)), none⟩,
 ⟨(some 39), .call true n_inflate_unpacker_teller [(T 35), (T 38)], none⟩,
 ⟨(some 34), .mv (T 39), none⟩,
 ⟨(some 40), .ext (T 34) 0, none⟩,
 ⟨(some 41), .ext (T 34) 1, none⟩,
 ⟨(some 8), .mv (T 40), none⟩,
 ⟨(some 9), .mv (T 41), none⟩])
 (.seq (.seq (.reg [⟨(some 42), .mv (T 9), none⟩,
 ⟨(some 43), .bin .neq (T 42) (C (0)), none⟩])
 (.cond (T 43)
 (.seq (.reg [⟨(some 44), .mv (T 9), none⟩,
 ⟨(some 2), .mv (.const (.pointer none)), none⟩,
 ⟨(some 3), .mv (T 44), none⟩])
 .ret)
 .skip))
 (.seq (.reg [⟨(some 46), .mv (T 0), none⟩,
 ⟨(some 47), .mv (T 8), none⟩,
 ⟨(some 48), .mv (T 6), none⟩,
 ⟨(some 49), .mv (T 7), none⟩,
 ⟨(some 50), .bin .add (T 48) (T 49), none⟩,
 ⟨(some 51), .call true n_inflate_unpacker_lengths [(T 46), (T 47), (T 50)], none⟩,
 ⟨(some 45), .mv (T 51), none⟩,
 ⟨(some 52), .ext (T 45) 0, none⟩,
 ⟨(some 53), .ext (T 45) 1, none⟩,
 ⟨(some 10), .mv (T 52), none⟩,
 ⟨(some 9), .mv (T 53), none⟩])
 (.seq (.seq (.reg [⟨(some 54), .mv (T 9), none⟩,
 ⟨(some 55), .bin .neq (T 54) (C (0)), none⟩])
 (.cond (T 55)
 (.seq (.reg [⟨(some 56), .mv (T 9), none⟩,
 ⟨(some 2), .mv (.const (.pointer none)), none⟩,
 ⟨(some 3), .mv (T 56), none⟩])
 .ret)
 .skip))
 (.seq (.reg [⟨(some 57), .mv (T 10), none⟩,
 ⟨(some 58), .mv (T 6), none⟩,
 ⟨(some 59), .sl none (T 57) none (some (T 58)), none⟩,
 ⟨(some 60), .mv (T 10), none⟩,
 ⟨(some 61), .mv (T 6), none⟩,
 ⟨(some 62), .sl none (T 60) (some (T 61)) none, none⟩,
 ⟨(some 63), .call true n_inflate_codesOf [(T 59), (T 62)], none⟩,
 ⟨(some 64), .ext (T 63) 0, none⟩,
 ⟨(some 65), .ext (T 63) 1, none⟩,
 ⟨(some 2), .mv (T 64), none⟩,
 ⟨(some 3), .mv (T 65), none⟩])
 .ret))))))))))
theorem e_inflate_unpacker_toldCodes : slimC Tryd.prog 66 (Tryd.f25.body.getD .skip) = s_inflate_unpacker_toldCodes := by kernel_rfl
theorem r_inflate_unpacker_toldCodes : slimRes Tryd.prog Tryd.f25 = some [.tmp 2, .tmp 3] := by kernel_rfl

/-- The slim code of drayage/drayageref03.Number. -/
def s_drayageref03_Number : SCode :=
 (.seq (.reg [⟨(some 2), .mv (C (0)), none⟩])
 (.seq (.reg [⟨(some 3), .mv (C (0)), none⟩])
 (.seq (.seq (.reg [⟨(some 5), .mv (T 0), none⟩,
 ⟨(some 6), .len false (T 5), none⟩,
 ⟨(some 7), .bin .sub (T 6) (C (1)), none⟩,
 ⟨(some 4), .mv (T 7), none⟩])
 (.block 0
 (.loop
 (.seq (.seq (.reg [⟨(some 8), .mv (T 4), none⟩,
 ⟨(some 9), .bin .geq (T 8) (C (0)), none⟩])
 (.cond (T 9)
 .skip
 (.exit 0)))
 (.seq (.block 1
 (.reg [⟨(some 12), .mv (T 3), none⟩,
 ⟨(some 13), .bin .mul (C (2)) (T 12), none⟩,
 ⟨(some 14), .mv (T 0), none⟩,
 ⟨(some 15), .mv (T 4), none⟩,
 ⟨(some 16), .iaddr none (T 14) (T 15), none⟩,
 ⟨(some 17), .load none (T 16), none⟩,
 ⟨(some 18), .bin .add (T 13) (T 17), none⟩,
 ⟨(some 3), .mv (T 18), none⟩]))
 (.reg [⟨(some 10), .mv (T 4), none⟩,
 ⟨(some 11), .bin .sub (T 10) (C (1)), none⟩,
 ⟨(some 4), .mv (T 11), none⟩]))))))
 (.seq (.reg [⟨(some 19), .mv (T 3), none⟩,
 ⟨(some 2), .mv (T 19), none⟩])
 .ret))))
theorem e_drayageref03_Number : slimC Tryd.prog 20 (Tryd.f26.body.getD .skip) = s_drayageref03_Number := by kernel_rfl
theorem r_drayageref03_Number : slimRes Tryd.prog Tryd.f26 = some [.tmp 2] := by kernel_rfl

/-- The slim code of (*drayage/drayageref04.state).bad. -/
def s_drayageref04_state_bad : SCode :=
 (.seq (.reg [⟨(some 6), .mv (T 1), none⟩,
 ⟨(some 7), .mv (T 6), none⟩,
 ⟨(some 8), .mv (T 0), (some (7, true))⟩,
 ⟨(some 9), .nilc (T 8), (some (7, true))⟩,
 ⟨(some 10), .faddr 4 (T 9), (some (7, true))⟩,
 ⟨(some 11), .load none (T 10), (some (7, true))⟩,
 ⟨(some 12), .bin .eql (T 11) (C (0)), (some (7, true))⟩,
 ⟨(some 13), .pick (T 7) (T 12) (.const (.bool false)), none⟩])
 (.cond (T 13)
 (.reg [⟨(some 14), .mv (T 0), none⟩,
 ⟨(some 15), .mv (T 2), none⟩,
 ⟨(some 16), .nilc (T 14), none⟩,
 ⟨(some 17), .faddr 4 (T 16), none⟩,
 ⟨none, .store none (T 17) (T 15), none⟩])
 .skip))
theorem e_drayageref04_state_bad : slimC Tryd.prog 18 (Tryd.f27.body.getD .skip) = s_drayageref04_state_bad := by kernel_rfl
theorem r_drayageref04_state_bad : slimRes Tryd.prog Tryd.f27 = some [] := by kernel_rfl

/-- The slim code of (*drayage/drayageref04.state).symbol. -/
def s_drayageref04_state_symbol : SCode :=
 (.seq (.reg [⟨(some 3), .box (T 1), none⟩,
 ⟨(some 4), .mv (C (0)), none⟩])
 (.seq (.seq (.reg [⟨(some 7), .mv (T 0), none⟩,
 ⟨(some 8), .nilc (T 7), none⟩,
 ⟨(some 9), .faddr 4 (T 8), none⟩,
 ⟨(some 10), .load none (T 9), none⟩,
 ⟨(some 11), .bin .neq (T 10) (C (0)), none⟩])
 (.cond (T 11)
 (.seq (.reg [⟨(some 4), .mv (C (0)), none⟩])
 .ret)
 .skip))
 (.seq (.reg [⟨(some 12), .mv (T 0), none⟩,
 ⟨(some 13), .nilc (T 12), none⟩,
 ⟨(some 14), .faddr 1 (T 13), none⟩,
 ⟨(some 15), .load none (T 14), none⟩,
 ⟨(some 16), .bin .add (T 15) (C (15)), none⟩,
 ⟨(some 5), .mv (T 16), none⟩])
 (.seq (.seq (.reg [⟨(some 17), .mv (T 5), none⟩,
 ⟨(some 18), .mv (T 0), none⟩,
 ⟨(some 19), .nilc (T 18), none⟩,
 ⟨(some 20), .faddr 0 (T 19), none⟩,
 ⟨(some 21), .load none (T 20), none⟩,
 ⟨(some 22), .len false (T 21), none⟩,
 ⟨(some 23), .bin .gtr (T 17) (T 22), none⟩])
 (.cond (T 23)
 (.reg [⟨(some 24), .mv (T 0), none⟩,
 ⟨(some 25), .nilc (T 24), none⟩,
 ⟨(some 26), .faddr 0 (T 25), none⟩,
 ⟨(some 27), .load none (T 26), none⟩,
 ⟨(some 28), .len false (T 27), none⟩,
 ⟨(some 5), .mv (T 28), none⟩])
 .skip))
 (.seq (.reg [⟨(some 29), .faddr 0 (T 3), none⟩,
 ⟨(some 30), .load none (T 29), none⟩,
 ⟨(some 31), .faddr 1 (T 3), none⟩,
 ⟨(some 32), .load none (T 31), none⟩,
 ⟨(some 33), .mv (T 0), none⟩,
 ⟨(some 34), .nilc (T 33), none⟩,
 ⟨(some 35), .faddr 0 (T 34), none⟩,
 ⟨(some 36), .load none (T 35), none⟩,
 ⟨(some 37), .mv (T 0), none⟩,
 ⟨(some 38), .nilc (T 37), none⟩,
 ⟨(some 39), .faddr 1 (T 38), none⟩,
 ⟨(some 40), .load none (T 39), none⟩,
 ⟨(some 41), .mv (T 5), none⟩,
 ⟨(some 42), .sl none (T 36) (some (T 40)) (some (T 41)), none⟩,
 ⟨(some 43), .call true n_drayageref03_Next [(T 30), (T 32), (T 42)], none⟩,
 ⟨(some 6), .alloc [(.int .i64 (0)), (.slice none 0 0), (.int .i64 (0))], none⟩,
 ⟨none, .store (some 3) (T 6) (T 43), none⟩])
 (.seq (.seq (.reg [⟨(some 44), .faddr 2 (T 6), none⟩,
 ⟨(some 45), .load none (T 44), none⟩,
 ⟨(some 46), .bin .neq (T 45) (C (0)), none⟩])
 (.cond (T 46)
 (.seq (.reg [⟨(some 47), .mv (T 0), none⟩,
 ⟨(some 48), .faddr 2 (T 6), none⟩,
 ⟨(some 49), .load none (T 48), none⟩,
 ⟨(some 50), .nilc (T 47), none⟩,
 ⟨(some 51), .faddr 4 (T 50), none⟩,
 ⟨none, .store none (T 51) (T 49), none⟩])
 (.seq (.reg [⟨(some 4), .mv (C (0)), none⟩])
 .ret))
 .skip))
 (.seq (.reg [⟨(some 52), .mv (T 0), none⟩,
 ⟨(some 53), .mv (T 0), none⟩,
 ⟨(some 54), .nilc (T 53), none⟩,
 ⟨(some 55), .faddr 1 (T 54), none⟩,
 ⟨(some 56), .load none (T 55), none⟩,
 ⟨(some 57), .faddr 0 (T 3), none⟩,
 ⟨(some 58), .load none (T 57), none⟩,
 ⟨(some 59), .faddr 0 (T 6), none⟩,
 ⟨(some 60), .load none (T 59), none⟩,
 ⟨(some 61), .iaddr none (T 58) (T 60), none⟩,
 ⟨(some 62), .load none (T 61), none⟩,
 ⟨(some 63), .bin .add (T 56) (T 62), none⟩,
 ⟨(some 64), .nilc (T 52), none⟩,
 ⟨(some 65), .faddr 1 (T 64), none⟩,
 ⟨none, .store none (T 65) (T 63), none⟩])
 (.seq (.reg [⟨(some 66), .faddr 0 (T 6), none⟩,
 ⟨(some 67), .load none (T 66), none⟩,
 ⟨(some 4), .mv (T 67), none⟩])
 .ret))))))))
theorem e_drayageref04_state_symbol : slimC Tryd.prog 68 (Tryd.f28.body.getD .skip) = s_drayageref04_state_symbol := by kernel_rfl
theorem r_drayageref04_state_symbol : slimRes Tryd.prog Tryd.f28 = some [.tmp 4] := by kernel_rfl

/-- The slim code of (*drayage/drayageref04.state).length. -/
def s_drayageref04_state_length : SCode :=
 (.seq (.reg [⟨(some 4), .mv (C (0)), none⟩])
 (.seq (.reg [⟨(some 7), .mv (T 1), none⟩,
 ⟨(some 8), .bin .sub (T 7) (C (257)), none⟩,
 ⟨(some 5), .mv (T 8), none⟩])
 (.seq (.seq (.reg [⟨(some 9), .mv (T 5), none⟩,
 ⟨(some 10), .bin .lss (T 9) (C (8)), none⟩])
 (.cond (T 10)
 (.seq (.reg [⟨(some 11), .mv (T 5), none⟩,
 ⟨(some 12), .bin .add (C (3)) (T 11), none⟩,
 ⟨(some 4), .mv (T 12), none⟩])
 .ret)
 .skip))
 (.seq (.seq (.reg [⟨(some 13), .mv (T 5), none⟩,
 ⟨(some 14), .bin .eql (T 13) (C (28)), none⟩])
 (.cond (T 14)
 (.seq (.reg [⟨(some 4), .mv (C (258)), none⟩])
 .ret)
 .skip))
 (.seq (.reg [⟨(some 15), .mv (T 5), none⟩,
 ⟨(some 16), .bin .quo (T 15) (C (4)), none⟩,
 ⟨(some 17), .bin .sub (T 16) (C (1)), none⟩,
 ⟨(some 6), .mv (T 17), none⟩])
 (.seq (.reg [⟨(some 18), .mv (T 5), none⟩,
 ⟨(some 19), .bin .rem (T 18) (C (4)), none⟩,
 ⟨(some 20), .bin .add (C (4)) (T 19), none⟩,
 ⟨(some 21), .mv (T 6), none⟩,
 ⟨(some 22), .call true n_drayageref04_power [(T 21)], none⟩,
 ⟨(some 23), .bin .mul (T 20) (T 22), none⟩,
 ⟨(some 24), .bin .add (C (3)) (T 23), none⟩,
 ⟨(some 25), .mv (T 0), none⟩,
 ⟨(some 26), .mv (T 6), none⟩,
 ⟨(some 27), .call true n_drayageref04_state_number [(T 25), (T 26)], none⟩,
 ⟨(some 28), .bin .add (T 24) (T 27), none⟩,
 ⟨(some 4), .mv (T 28), none⟩])
 .ret))))))
theorem e_drayageref04_state_length : slimC Tryd.prog 29 (Tryd.f29.body.getD .skip) = s_drayageref04_state_length := by kernel_rfl
theorem r_drayageref04_state_length : slimRes Tryd.prog Tryd.f29 = some [.tmp 4] := by kernel_rfl

/-- The slim code of (*drayage/drayageref04.state).distance. -/
def s_drayageref04_state_distance : SCode :=
 (.seq (.reg [⟨(some 4), .mv (C (0)), none⟩])
 (.seq (.seq (.reg [⟨(some 6), .mv (T 1), none⟩,
 ⟨(some 7), .bin .lss (T 6) (C (4)), none⟩])
 (.cond (T 7)
 (.seq (.reg [⟨(some 8), .mv (T 1), none⟩,
 ⟨(some 9), .bin .add (C (1)) (T 8), none⟩,
 ⟨(some 4), .mv (T 9), none⟩])
 .ret)
 .skip))
 (.seq (.reg [⟨(some 10), .mv (T 1), none⟩,
 ⟨(some 11), .bin .quo (T 10) (C (2)), none⟩,
 ⟨(some 12), .bin .sub (T 11) (C (1)), none⟩,
 ⟨(some 5), .mv (T 12), none⟩])
 (.seq (.reg [⟨(some 13), .mv (T 1), none⟩,
 ⟨(some 14), .bin .rem (T 13) (C (2)), none⟩,
 ⟨(some 15), .bin .add (C (2)) (T 14), none⟩,
 ⟨(some 16), .mv (T 5), none⟩,
 ⟨(some 17), .call true n_drayageref04_power [(T 16)], none⟩,
 ⟨(some 18), .bin .mul (T 15) (T 17), none⟩,
 ⟨(some 19), .bin .add (C (1)) (T 18), none⟩,
 ⟨(some 20), .mv (T 0), none⟩,
 ⟨(some 21), .mv (T 5), none⟩,
 ⟨(some 22), .call true n_drayageref04_state_number [(T 20), (T 21)], none⟩,
 ⟨(some 23), .bin .add (T 19) (T 22), none⟩,
 ⟨(some 4), .mv (T 23), none⟩])
 .ret))))
theorem e_drayageref04_state_distance : slimC Tryd.prog 24 (Tryd.f30.body.getD .skip) = s_drayageref04_state_distance := by kernel_rfl
theorem r_drayageref04_state_distance : slimRes Tryd.prog Tryd.f30 = some [.tmp 4] := by kernel_rfl

/-- The slim code of drayage/drayageref03.Codes. -/
def s_drayageref03_Codes : SCode :=
 (.seq (.reg [⟨(some 2), .mv (.const (.slice none 0 0)), none⟩,
 ⟨(some 3), .mv (C (0)), none⟩])
 (.seq (.seq (.reg [⟨(some 9), .mv (T 0), none⟩,
 ⟨(some 10), .call true n_drayageref03_Check [(T 9)], none⟩,
 ⟨(some 4), .mv (T 10), none⟩])
 (.seq (.reg [⟨(some 11), .mv (T 4), none⟩,
 ⟨(some 12), .bin .neq (T 11) (C (0)), none⟩])
 (.cond (T 12)
 (.seq (.reg [⟨(some 13), .mv (T 4), none⟩,
 ⟨(some 2), .mv (.const (.slice none 0 0)), none⟩,
 ⟨(some 3), .mv (T 13), none⟩])
 .ret)
 .skip)))
 (.seq (.reg [⟨(some 5), .mv (.const (.slice none 0 0)), none⟩])
 (.seq (.reg [⟨(some 14), .mv (T 5), none⟩,
 ⟨(some 15), .mv (T 0), none⟩,
 ⟨(some 16), .app none 8 (T 14) (T 15), none⟩,
 ⟨(some 5), .mv (T 16), none⟩])
 (.seq (.reg [⟨(some 6), .mv (C (0)), none⟩])
 (.seq (.seq (.reg [⟨(some 7), .mv (C (0)), none⟩])
 (.block 0
 (.loop
 (.seq (.seq (.reg [⟨(some 17), .mv (T 7), none⟩,
 ⟨(some 18), .bin .leq (T 17) (C (15)), none⟩])
 (.cond (T 18)
 .skip
 (.exit 0)))
 (.seq (.block 1
 (.seq (.seq (.reg [⟨(some 8), .mv (C (0)), none⟩])
 (.block 2
 (.loop
 (.seq (.seq (.reg [⟨(some 21), .mv (T 8), none⟩,
 ⟨(some 22), .mv (T 0), none⟩,
 ⟨(some 23), .len false (T 22), none⟩,
 ⟨(some 24), .bin .lss (T 21) (T 23), none⟩])
 (.cond (T 24)
 .skip
 (.exit 2)))
 (.seq (.block 3
 (.seq (.seq (.reg [⟨(some 27), .mv (T 0), none⟩,
 ⟨(some 28), .mv (T 8), none⟩,
 ⟨(some 29), .iaddr none (T 27) (T 28), none⟩,
 ⟨(some 30), .load none (T 29), none⟩,
 ⟨(some 31), .mv (T 7), none⟩,
 ⟨(some 32), .bin .neq (T 30) (T 31), none⟩])
 (.cond (T 32)
 (.exit 3)
 .skip))
 (.seq (.reg [⟨(some 33), .mv (T 5), none⟩,
 ⟨(some 34), .mv (T 8), none⟩,
 ⟨(some 35), .mv (T 6), none⟩,
 ⟨(some 36), .iaddr none (T 33) (T 34), none⟩,
 ⟨none, .store none (T 36) (T 35), none⟩])
 (.seq (.reg [⟨(some 37), .mv (T 7), none⟩,
 ⟨(some 38), .bin .gtr (T 37) (C (0)), none⟩])
 (.cond (T 38)
 (.reg [⟨(some 39), .mv (T 6), none⟩,
 ⟨(some 40), .bin .add (T 39) (C (1)), none⟩,
 ⟨(some 6), .mv (T 40), none⟩])
 (.reg [⟨(some 41), .mv (T 5), none⟩,
 ⟨(some 42), .mv (T 8), none⟩,
 ⟨(some 43), .iaddr none (T 41) (T 42), none⟩,
 ⟨none, .store none (T 43) (C (0)), none⟩]))))))
 (.reg [⟨(some 25), .mv (T 8), none⟩,
 ⟨(some 26), .bin .add (T 25) (C (1)), none⟩,
 ⟨(some 8), .mv (T 26), none⟩]))))))
 (.reg [⟨(some 44), .mv (T 6), none⟩,
 ⟨(some 45), .bin .mul (C (2)) (T 44), none⟩,
 ⟨(some 6), .mv (T 45), none⟩])))
 (.reg [⟨(some 19), .mv (T 7), none⟩,
 ⟨(some 20), .bin .add (T 19) (C (1)), none⟩,
 ⟨(some 7), .mv (T 20), none⟩]))))))
 (.seq (.reg [⟨(some 46), .mv (T 5), none⟩,
 ⟨(some 2), .mv (T 46), none⟩,
 ⟨(some 3), .mv (C (0)), none⟩])
 .ret)))))))
theorem e_drayageref03_Codes : slimC Tryd.prog 47 (Tryd.f31.body.getD .skip) = s_drayageref03_Codes := by kernel_rfl
theorem r_drayageref03_Codes : slimRes Tryd.prog Tryd.f31 = some [.tmp 2, .tmp 3] := by kernel_rfl

/-- The slim code of drayage/drayageref03.Full. -/
def s_drayageref03_Full : SCode :=
 (.seq (.reg [⟨(some 2), .mv (.const (.bool false)), none⟩])
 (.seq (.reg [⟨(some 3), .mv (T 0), none⟩,
 ⟨(some 4), .call true n_drayageref03_Check [(T 3)], none⟩,
 ⟨(some 5), .bin .eql (T 4) (C (0)), none⟩,
 ⟨(some 6), .mv (T 5), none⟩,
 ⟨(some 7), .mv (T 0), (some (6, true))⟩,
 ⟨(some 8), .call true n_drayageref03_share [(T 7)], (some (6, true))⟩,
 ⟨(some 9), .bin .eql (T 8) (C (32768)), (some (6, true))⟩,
 ⟨(some 10), .pick (T 6) (T 9) (.const (.bool false)), none⟩,
 ⟨(some 2), .mv (T 10), none⟩])
 .ret))
theorem e_drayageref03_Full : slimC Tryd.prog 11 (Tryd.f32.body.getD .skip) = s_drayageref03_Full := by kernel_rfl
theorem r_drayageref03_Full : slimRes Tryd.prog Tryd.f32 = some [.tmp 2] := by kernel_rfl

/-- The slim code of (*drayage/huff.Reader).left. -/
def s_huff_Reader_left : SCode :=
 (.seq (.reg [⟨(some 2), .mv (C (0)), none⟩])
 (.seq (.reg [⟨(some 3), .mv (T 0), none⟩,
 ⟨(some 4), .nilc (T 3), none⟩,
 ⟨(some 5), .faddr 0 (T 4), none⟩,
 ⟨(some 6), .load none (T 5), none⟩,
 ⟨(some 7), .len false (T 6), none⟩,
 ⟨(some 8), .bin .mul (T 7) (C (8)), none⟩,
 ⟨(some 9), .mv (T 0), none⟩,
 ⟨(some 10), .nilc (T 9), none⟩,
 ⟨(some 11), .faddr 1 (T 10), none⟩,
 ⟨(some 12), .load none (T 11), none⟩,
 ⟨(some 13), .bin .sub (T 8) (T 12), none⟩,
 ⟨(some 2), .mv (T 13), none⟩])
 .ret))
theorem e_huff_Reader_left : slimC Tryd.prog 14 (Tryd.f33.body.getD .skip) = s_huff_Reader_left := by kernel_rfl
theorem r_huff_Reader_left : slimRes Tryd.prog Tryd.f33 = some [.tmp 2] := by kernel_rfl

/-- The slim code of (*drayage/huff.Reader).bit. -/
def s_huff_Reader_bit : SCode :=
 (.seq (.reg [⟨(some 2), .mv (C (0)), none⟩])
 (.seq (.reg [⟨(some 4), .mv (T 0), none⟩,
 ⟨(some 5), .nilc (T 4), none⟩,
 ⟨(some 6), .faddr 0 (T 5), none⟩,
 ⟨(some 7), .load none (T 6), none⟩,
 ⟨(some 8), .mv (T 0), none⟩,
 ⟨(some 9), .nilc (T 8), none⟩,
 ⟨(some 10), .faddr 1 (T 9), none⟩,
 ⟨(some 11), .load none (T 10), none⟩,
 ⟨(some 12), .bin .quo (T 11) (C (8)), none⟩,
 ⟨(some 13), .iaddr none (T 7) (T 12), none⟩,
 ⟨(some 14), .load none (T 13), none⟩,
 ⟨(some 15), .ci .i64 (T 14), none⟩,
 ⟨(some 16), .mv (T 0), none⟩,
 ⟨(some 17), .nilc (T 16), none⟩,
 ⟨(some 18), .faddr 1 (T 17), none⟩,
 ⟨(some 19), .load none (T 18), none⟩,
 ⟨(some 20), .bin .rem (T 19) (C (8)), none⟩,
 ⟨(some 21), .bin .shr (T 15) (T 20), none⟩,
 ⟨(some 22), .bin .and (T 21) (C (1)), none⟩,
 ⟨(some 3), .mv (T 22), none⟩])
 (.seq (.reg [⟨(some 23), .mv (T 0), none⟩,
 ⟨(some 24), .nilc (T 23), none⟩,
 ⟨(some 25), .faddr 1 (T 24), none⟩,
 ⟨(some 26), .load none (T 25), none⟩,
 ⟨(some 27), .bin .add (T 26) (C (1)), none⟩,
 ⟨(some 28), .nilc (T 23), none⟩,
 ⟨(some 29), .faddr 1 (T 28), none⟩,
 ⟨none, .store none (T 29) (T 27), none⟩])
 (.seq (.reg [⟨(some 30), .mv (T 3), none⟩,
 ⟨(some 2), .mv (T 30), none⟩])
 .ret))))
theorem e_huff_Reader_bit : slimC Tryd.prog 31 (Tryd.f34.body.getD .skip) = s_huff_Reader_bit := by kernel_rfl
theorem r_huff_Reader_bit : slimRes Tryd.prog Tryd.f34 = some [.tmp 2] := by kernel_rfl

/-- The slim code of (*drayage/huff.Reader).Align. -/
def s_huff_Reader_Align : SCode :=
 (.reg [⟨(some 2), .mv (T 0), none⟩,
 ⟨(some 3), .mv (T 0), none⟩,
 ⟨(some 4), .nilc (T 3), none⟩,
 ⟨(some 5), .faddr 1 (T 4), none⟩,
 ⟨(some 6), .load none (T 5), none⟩,
 ⟨(some 7), .bin .add (T 6) (C (8)), none⟩,
 ⟨(some 8), .bin .sub (T 7) (C (1)), none⟩,
 ⟨(some 9), .bin .quo (T 8) (C (8)), none⟩,
 ⟨(some 10), .bin .mul (T 9) (C (8)), none⟩,
 ⟨(some 11), .nilc (T 2), none⟩,
 ⟨(some 12), .faddr 1 (T 11), none⟩,
 ⟨none, .store none (T 12) (T 10), none⟩])
theorem e_huff_Reader_Align : slimC Tryd.prog 13 (Tryd.f35.body.getD .skip) = s_huff_Reader_Align := by kernel_rfl
theorem r_huff_Reader_Align : slimRes Tryd.prog Tryd.f35 = some [] := by kernel_rfl

/-- The slim code of (*drayage/huff.Reader).Bytes. -/
def s_huff_Reader_Bytes : SCode :=
 (.seq (.reg [⟨(some 4), .mv (.const (.slice none 0 0)), none⟩,
 ⟨(some 5), .mv (.const (.bool false)), none⟩])
 (.seq (.reg [⟨(some 7), .mv (T 0), none⟩,
 ⟨(some 8), .call true n_huff_Reader_Align [(T 7)], none⟩])
 (.seq (.seq (.reg [⟨(some 9), .mv (T 1), none⟩,
 ⟨(some 10), .bin .lss (T 9) (C (0)), none⟩,
 ⟨(some 11), .mv (T 10), none⟩,
 ⟨(some 12), .mv (T 1), (some (11, false))⟩,
 ⟨(some 13), .mv (T 0), (some (11, false))⟩,
 ⟨(some 14), .call true n_huff_Reader_left [(T 13)], (some (11, false))⟩,
 ⟨(some 15), .bin .quo (T 14) (C (8)), (some (11, false))⟩,
 ⟨(some 16), .bin .gtr (T 12) (T 15), (some (11, false))⟩,
 ⟨(some 17), .pick (T 11) (.const (.bool true)) (T 16), none⟩])
 (.cond (T 17)
 (.seq (.reg [⟨(some 4), .mv (.const (.slice none 0 0)), none⟩,
 ⟨(some 5), .mv (.const (.bool false)), none⟩])
 .ret)
 .skip))
 (.seq (.reg [⟨(some 18), .mv (T 0), none⟩,
 ⟨(some 19), .nilc (T 18), none⟩,
 ⟨(some 20), .faddr 1 (T 19), none⟩,
 ⟨(some 21), .load none (T 20), none⟩,
 ⟨(some 22), .bin .quo (T 21) (C (8)), none⟩,
 ⟨(some 6), .mv (T 22), none⟩])
 (.seq (.reg [⟨(some 23), .mv (T 0), none⟩,
 ⟨(some 24), .nilc (T 23), none⟩,
 ⟨(some 25), .faddr 1 (T 24), none⟩,
 ⟨(some 26), .load none (T 25), none⟩,
 ⟨(some 27), .mv (T 1), none⟩,
 ⟨(some 28), .bin .mul (T 27) (C (8)), none⟩,
 ⟨(some 29), .bin .add (T 26) (T 28), none⟩,
 ⟨(some 30), .nilc (T 23), none⟩,
 ⟨(some 31), .faddr 1 (T 30), none⟩,
 ⟨none, .store none (T 31) (T 29), none⟩])
 (.seq (.reg [⟨(some 32), .mv (T 0), none⟩,
 ⟨(some 33), .nilc (T 32), none⟩,
 ⟨(some 34), .faddr 0 (T 33), none⟩,
 ⟨(some 35), .load none (T 34), none⟩,
 ⟨(some 36), .mv (T 6), none⟩,
 ⟨(some 37), .mv (T 6), none⟩,
 ⟨(some 38), .mv (T 1), none⟩,
 ⟨(some 39), .bin .add (T 37) (T 38), none⟩,
 ⟨(some 40), .sl none (T 35) (some (T 36)) (some (T 39)), none⟩,
 ⟨(some 41), .call true n_bytes_Clone [(T 40)], none⟩,
 ⟨(some 4), .mv (T 41), none⟩,
 ⟨(some 5), .mv (.const (.bool true)), none⟩])
 .ret))))))
theorem e_huff_Reader_Bytes : slimC Tryd.prog 42 (Tryd.f36.body.getD .skip) = s_huff_Reader_Bytes := by kernel_rfl
theorem r_huff_Reader_Bytes : slimRes Tryd.prog Tryd.f36 = some [.tmp 4, .tmp 5] := by kernel_rfl

/-- The slim code of (*drayage/inflate.unpacker).room. -/
def s_inflate_unpacker_room : SCode :=
 (.seq (.reg [⟨(some 2), .mv (C (0)), none⟩])
 (.seq (.reg [⟨(some 3), .mv (T 0), none⟩,
 ⟨(some 4), .nilc (T 3), none⟩,
 ⟨(some 5), .faddr 2 (T 4), none⟩,
 ⟨(some 6), .load none (T 5), none⟩,
 ⟨(some 7), .mv (T 0), none⟩,
 ⟨(some 8), .nilc (T 7), none⟩,
 ⟨(some 9), .faddr 1 (T 8), none⟩,
 ⟨(some 10), .load none (T 9), none⟩,
 ⟨(some 11), .len false (T 10), none⟩,
 ⟨(some 12), .bin .sub (T 6) (T 11), none⟩,
 ⟨(some 2), .mv (T 12), none⟩])
 .ret))
theorem e_inflate_unpacker_room : slimC Tryd.prog 13 (Tryd.f37.body.getD .skip) = s_inflate_unpacker_room := by kernel_rfl
theorem r_inflate_unpacker_room : slimRes Tryd.prog Tryd.f37 = some [.tmp 2] := by kernel_rfl

/-- The slim code of drayage/huff.NewTree. -/
def s_huff_NewTree : SCode :=
 (.seq (.reg [⟨(some 2), .mv (.const (.pointer none)), none⟩,
 ⟨(some 3), .mv (C (0)), none⟩])
 (.seq (.seq (.reg [⟨(some 8), .mv (T 0), none⟩,
 ⟨(some 9), .call true n_huff_Check [(T 8)], none⟩,
 ⟨(some 4), .mv (T 9), none⟩])
 (.seq (.reg [⟨(some 10), .mv (T 4), none⟩,
 ⟨(some 11), .bin .neq (T 10) (C (0)), none⟩])
 (.cond (T 11)
 (.seq (.reg [⟨(some 12), .mv (T 4), none⟩,
 ⟨(some 2), .mv (.const (.pointer none)), none⟩,
 ⟨(some 3), .mv (T 12), none⟩])
 .ret)
 .skip)))
 (.seq (.reg [⟨(some 13), .mv (T 0), none⟩,
 ⟨(some 14), .call true n_huff_firstRows [(T 13)], none⟩,
 ⟨(some 15), .mv (T 0), none⟩,
 ⟨(some 16), .call true n_huff_taken [(T 15)], none⟩,
 ⟨(some 17), .build [(.int .i64 (0)), (.int .i64 (0)), (.int .i64 (0)), (.int .i64 (0)), (.int .i64 (0)), (.int .i64 (0)), (.int .i64 (0)), (.int .i64 (0)), (.int .i64 (0)), (.int .i64 (0)), (.int .i64 (0)), (.int .i64 (0)), (.int .i64 (0)), (.int .i64 (0)), (.int .i64 (0)), (.int .i64 (0)), (.slice none 0 0), (.slice none 0 0), (.slice none 0 0), (.slice none 0 0), (.slice none 0 0), (.slice none 0 0), (.slice none 0 0), (.slice none 0 0), (.slice none 0 0), (.slice none 0 0), (.slice none 0 0), (.slice none 0 0), (.slice none 0 0), (.slice none 0 0), (.slice none 0 0), (.slice none 0 0), (.int .i64 (0))] [(0, 16, (T 14)), (32, 1, (T 16))], none⟩,
 ⟨(some 18), .box (T 17), none⟩,
 ⟨(some 5), .mv (T 18), none⟩])
 (.seq (.seq (.reg [⟨(some 19), .mv (T 0), none⟩,
 ⟨(some 20), .len false (T 19), none⟩,
 ⟨(some 21), .mv (C (0)), none⟩])
 (.block 0
 (.loop
 (.seq (.reg [⟨(some 22), .bin .lss (T 21) (T 20), none⟩])
 (.seq (.cond (T 22)
 .skip
 (.exit 0))
 (.seq (.block 1
 (.seq (.reg [⟨(some 23), .mv (T 21), none⟩,
 ⟨(some 24), .iaddr none (T 19) (T 21), none⟩,
 ⟨(some 25), .load none (T 24), none⟩,
 ⟨(some 6), .mv (T 23), none⟩,
 ⟨(some 7), .mv (T 25), none⟩])
 (.seq (.reg [⟨(some 26), .mv (T 7), none⟩,
 ⟨(some 27), .bin .gtr (T 26) (C (0)), none⟩])
 (.cond (T 27)
 (.reg [⟨(some 28), .mv (T 5), none⟩,
 ⟨(some 29), .mv (T 7), none⟩,
 ⟨(some 30), .mv (T 5), none⟩,
 ⟨(some 31), .mv (T 7), none⟩,
 ⟨(some 32), .nilc (T 30), none⟩,
 ⟨(some 33), .faddr 16 (T 32), none⟩,
 ⟨(some 34), .iaddrA 16 none (T 33) (T 31), none⟩,
 ⟨(some 35), .load none (T 34), none⟩,
 ⟨(some 36), .mv (T 6), none⟩,
 ⟨(some 37), .bslice none [(T 36)], none⟩,
 ⟨(some 38), .app none 8 (T 35) (T 37), none⟩,
 ⟨(some 39), .nilc (T 28), none⟩,
 ⟨(some 40), .faddr 16 (T 39), none⟩,
 ⟨(some 41), .iaddrA 16 none (T 40) (T 29), none⟩,
 ⟨none, .store none (T 41) (T 38), none⟩])
 .skip))))
 (.reg [⟨(some 42), .bin .add (T 21) (C (1)), none⟩,
 ⟨(some 21), .mv (T 42), none⟩])))))))
 (.seq (.reg [⟨(some 43), .mv (T 5), none⟩,
 ⟨(some 2), .mv (T 43), none⟩,
 ⟨(some 3), .mv (C (0)), none⟩])
 .ret)))))
theorem e_huff_NewTree : slimC Tryd.prog 44 (Tryd.f38.body.getD .skip) = s_huff_NewTree := by kernel_rfl
theorem r_huff_NewTree : slimRes Tryd.prog Tryd.f38 = some [.tmp 2, .tmp 3] := by kernel_rfl

/-- The slim code of slices.Concat[[]int,int]. -/
def s_slices_Concatintint : SCode :=
 (.seq (.reg [⟨(some 2), .mv (.const (.slice none 0 0)), none⟩])
 (.seq (.reg [⟨(some 3), .mv (C (0)), none⟩])
 (.seq (.seq (.reg [⟨(some 9), .mv (T 0), none⟩,
 ⟨(some 10), .len false (T 9), none⟩,
 ⟨(some 11), .mv (C (0)), none⟩])
 (.block 0
 (.loop
 (.seq (.reg [⟨(some 12), .bin .lss (T 11) (T 10), none⟩])
 (.seq (.cond (T 12)
 .skip
 (.exit 0))
 (.seq (.block 1
 (.seq (.reg [⟨(some 13), .iaddr none (T 9) (T 11), none⟩,
 ⟨(some 14), .load none (T 13), none⟩,
 ⟨(some 5), .mv (T 14), none⟩])
 (.seq (.reg [⟨(some 15), .mv (T 3), none⟩,
 ⟨(some 16), .mv (T 5), none⟩,
 ⟨(some 17), .len false (T 16), none⟩,
 ⟨(some 18), .bin .add (T 15) (T 17), none⟩,
 ⟨(some 3), .mv (T 18), none⟩])
 (.seq (.reg [⟨(some 19), .mv (T 3), none⟩,
 ⟨(some 20), .bin .lss (T 19) (C (0)), none⟩])
 (.cond (T 20)
 (.reg [⟨(some 21), .no, none⟩,
 ⟨none, .no, none⟩])
 .skip)))))
 (.reg [⟨(some 22), .bin .add (T 11) (C (1)), none⟩,
 ⟨(some 11), .mv (T 22), none⟩])))))))
 (.seq (.reg [⟨(some 23), .mv (T 3), none⟩,
 ⟨(some 24), .call true n_slices_Growintint [(.const (.slice none 0 0)), (T 23)], none⟩,
 ⟨(some 6), .mv (T 24), none⟩])
 (.seq (.seq (.reg [⟨(some 25), .mv (T 0), none⟩,
 ⟨(some 26), .len false (T 25), none⟩,
 ⟨(some 27), .mv (C (0)), none⟩])
 (.block 2
 (.loop
 (.seq (.reg [⟨(some 28), .bin .lss (T 27) (T 26), none⟩])
 (.seq (.cond (T 28)
 .skip
 (.exit 2))
 (.seq (.block 3
 (.seq (.reg [⟨(some 29), .iaddr none (T 25) (T 27), none⟩,
 ⟨(some 30), .load none (T 29), none⟩,
 ⟨(some 8), .mv (T 30), none⟩])
 (.reg [⟨(some 31), .mv (T 6), none⟩,
 ⟨(some 32), .mv (T 8), none⟩,
 ⟨(some 33), .app none 8 (T 31) (T 32), none⟩,
 ⟨(some 6), .mv (T 33), none⟩])))
 (.reg [⟨(some 34), .bin .add (T 27) (C (1)), none⟩,
 ⟨(some 27), .mv (T 34), none⟩])))))))
 (.seq (.reg [⟨(some 35), .mv (T 6), none⟩,
 ⟨(some 2), .mv (T 35), none⟩])
 .ret))))))
theorem e_slices_Concatintint : slimC Tryd.prog 36 (Tryd.f39.body.getD .skip) = s_slices_Concatintint := by kernel_rfl
theorem r_slices_Concatintint : slimRes Tryd.prog Tryd.f39 = some [.tmp 2] := by kernel_rfl

/-- The slim code of slices.Repeat[[]int,int]. -/
def s_slices_Repeatintint : SCode :=
 (.seq (.reg [⟨(some 4), .mv (.const (.slice none 0 0)), none⟩])
 (.seq (.seq (.reg [⟨(some 9), .mv (T 1), none⟩,
 ⟨(some 10), .bin .lss (T 9) (C (0)), none⟩])
 (.cond (T 10)
 (.reg [⟨(some 11), .no, none⟩,
 ⟨none, .no, none⟩])
 .skip))
 (.seq (.reg [⟨(some 13), .mv (T 0), none⟩,
 ⟨(some 14), .len false (T 13), none⟩,
 ⟨(some 15), .ci .u64 (T 14), none⟩,
 ⟨(some 16), .mv (T 1), none⟩,
 ⟨(some 17), .ci .u64 (T 16), none⟩,
 ⟨(some 18), .call true n_bits_Mul [(T 15), (T 17)], none⟩,
 ⟨(some 12), .mv (T 18), none⟩,
 ⟨(some 19), .ext (T 12) 0, none⟩,
 ⟨(some 20), .ext (T 12) 1, none⟩,
 ⟨(some 5), .mv (T 19), none⟩,
 ⟨(some 6), .mv (T 20), none⟩])
 (.seq (.seq (.reg [⟨(some 21), .mv (T 5), none⟩,
 ⟨(some 22), .bin .gtr (T 21) (.const (.int .u64 (0))), none⟩,
 ⟨(some 23), .mv (T 22), none⟩,
 ⟨(some 24), .mv (T 6), (some (23, false))⟩,
 ⟨(some 25), .bin .gtr (T 24) (.const (.int .u64 (9223372036854775807))), (some (23, false))⟩,
 ⟨(some 26), .pick (T 23) (.const (.bool true)) (T 25), none⟩])
 (.cond (T 26)
 (.reg [⟨(some 27), .no, none⟩,
 ⟨none, .no, none⟩])
 .skip))
 (.seq (.reg [⟨(some 28), .mv (T 6), none⟩,
 ⟨(some 29), .ci .i64 (T 28), none⟩,
 ⟨(some 30), .mks none 8 [(.int .i64 (0))] (T 29) (T 29), none⟩,
 ⟨(some 7), .mv (T 30), none⟩])
 (.seq (.reg [⟨(some 31), .mv (T 7), none⟩,
 ⟨(some 32), .mv (T 0), none⟩,
 ⟨(some 33), .copy (T 31) (T 32), none⟩,
 ⟨(some 8), .mv (T 33), none⟩])
 (.seq (.block 0
 (.loop
 (.seq (.seq (.reg [⟨(some 34), .mv (T 8), none⟩,
 ⟨(some 35), .mv (T 7), none⟩,
 ⟨(some 36), .len false (T 35), none⟩,
 ⟨(some 37), .bin .lss (T 34) (T 36), none⟩])
 (.cond (T 37)
 .skip
 (.exit 0)))
 (.block 1
 (.reg [⟨(some 38), .mv (T 8), none⟩,
 ⟨(some 39), .mv (T 7), none⟩,
 ⟨(some 40), .mv (T 8), none⟩,
 ⟨(some 41), .sl none (T 39) (some (T 40)) none, none⟩,
 ⟨(some 42), .mv (T 7), none⟩,
 ⟨(some 43), .mv (T 8), none⟩,
 ⟨(some 44), .sl none (T 42) none (some (T 43)), none⟩,
 ⟨(some 45), .copy (T 41) (T 44), none⟩,
 ⟨(some 46), .bin .add (T 38) (T 45), none⟩,
 ⟨(some 8), .mv (T 46), none⟩])))))
 (.seq (.reg [⟨(some 47), .mv (T 7), none⟩,
 ⟨(some 4), .mv (T 47), none⟩])
 .ret))))))))
theorem e_slices_Repeatintint : slimC Tryd.prog 48 (Tryd.f40.body.getD .skip) = s_slices_Repeatintint := by kernel_rfl
theorem r_slices_Repeatintint : slimRes Tryd.prog Tryd.f40 = some [.tmp 4] := by kernel_rfl

/-- The slim code of (*drayage/huff.Tree).Next. -/
def s_huff_Tree_Next : SCode :=
 (.seq (.reg [⟨(some 4), .mv (C (0)), none⟩,
 ⟨(some 5), .mv (C (0)), none⟩])
 (.seq (.reg [⟨(some 6), .mv (C (0)), none⟩])
 (.seq (.seq (.reg [⟨(some 10), .mv (C (0)), none⟩])
 (.block 0
 (.loop
 (.seq (.reg [⟨(some 11), .bin .lss (T 10) (C (15)), none⟩])
 (.seq (.cond (T 11)
 .skip
 (.exit 0))
 (.seq (.block 1
 (.seq (.reg [⟨(some 12), .mv (T 10), none⟩,
 ⟨(some 7), .mv (T 12), none⟩])
 (.seq (.seq (.reg [⟨(some 13), .mv (T 1), none⟩,
 ⟨(some 14), .call true n_huff_Reader_left [(T 13)], none⟩,
 ⟨(some 15), .bin .eql (T 14) (C (0)), none⟩])
 (.cond (T 15)
 (.seq (.reg [⟨(some 4), .mv (C (0)), none⟩,
 ⟨(some 5), .mv (C (2)), none⟩])
 .ret)
 .skip))
 (.seq (.reg [⟨(some 16), .mv (T 6), none⟩,
 ⟨(some 17), .bin .shl (T 16) (.const (.int .u64 (1))), none⟩,
 ⟨(some 18), .mv (T 1), none⟩,
 ⟨(some 19), .call true n_huff_Reader_bit [(T 18)], none⟩,
 ⟨(some 20), .bin .or (T 17) (T 19), none⟩,
 ⟨(some 6), .mv (T 20), none⟩])
 (.seq (.reg [⟨(some 21), .mv (T 7), none⟩,
 ⟨(some 22), .bin .add (T 21) (C (1)), none⟩,
 ⟨(some 8), .mv (T 22), none⟩])
 (.seq (.seq (.reg [⟨(some 23), .mv (T 0), none⟩,
 ⟨(some 24), .mv (T 6), none⟩,
 ⟨(some 25), .mv (T 8), none⟩,
 ⟨(some 26), .call true n_huff_Tree_begins [(T 23), (T 24), (T 25)], none⟩,
 ⟨(some 27), .un .not (T 26), none⟩])
 (.cond (T 27)
 (.exit 0)
 .skip))
 (.seq (.reg [⟨(some 28), .mv (T 6), none⟩,
 ⟨(some 29), .mv (T 0), none⟩,
 ⟨(some 30), .mv (T 8), none⟩,
 ⟨(some 31), .nilc (T 29), none⟩,
 ⟨(some 32), .faddr 0 (T 31), none⟩,
 ⟨(some 33), .iaddrA 16 none (T 32) (T 30), none⟩,
 ⟨(some 34), .load none (T 33), none⟩,
 ⟨(some 35), .bin .sub (T 28) (T 34), none⟩,
 ⟨(some 9), .mv (T 35), none⟩])
 (.seq (.reg [⟨(some 36), .mv (T 9), none⟩,
 ⟨(some 37), .mv (T 0), none⟩,
 ⟨(some 38), .mv (T 8), none⟩,
 ⟨(some 39), .nilc (T 37), none⟩,
 ⟨(some 40), .faddr 16 (T 39), none⟩,
 ⟨(some 41), .iaddrA 16 none (T 40) (T 38), none⟩,
 ⟨(some 42), .load none (T 41), none⟩,
 ⟨(some 43), .len false (T 42), none⟩,
 ⟨(some 44), .bin .lss (T 36) (T 43), none⟩])
 (.cond (T 44)
 (.seq (.reg [⟨(some 45), .mv (T 0), none⟩,
 ⟨(some 46), .mv (T 8), none⟩,
 ⟨(some 47), .nilc (T 45), none⟩,
 ⟨(some 48), .faddr 16 (T 47), none⟩,
 ⟨(some 49), .iaddrA 16 none (T 48) (T 46), none⟩,
 ⟨(some 50), .load none (T 49), none⟩,
 ⟨(some 51), .mv (T 9), none⟩,
 ⟨(some 52), .iaddr none (T 50) (T 51), none⟩,
 ⟨(some 53), .load none (T 52), none⟩,
 ⟨(some 4), .mv (T 53), none⟩,
 ⟨(some 5), .mv (C (0)), none⟩])
 .ret)
 .skip)))))))))
 (.reg [⟨(some 54), .bin .add (T 10) (C (1)), none⟩,
 ⟨(some 10), .mv (T 54), none⟩])))))))
 (.seq (.reg [⟨(some 4), .mv (C (0)), none⟩,
 ⟨(some 5), .mv (C (3)), none⟩])
 .ret))))
theorem e_huff_Tree_Next : slimC Tryd.prog 55 (Tryd.f41.body.getD .skip) = s_huff_Tree_Next := by kernel_rfl
theorem r_huff_Tree_Next : slimRes Tryd.prog Tryd.f41 = some [.tmp 4, .tmp 5] := by kernel_rfl

/-- The slim code of (*drayage/inflate.unpacker).literal. -/
def s_inflate_unpacker_literal : SCode :=
 (.seq (.reg [⟨(some 4), .mv (C (0)), none⟩])
 (.seq (.seq (.reg [⟨(some 5), .mv (T 0), none⟩,
 ⟨(some 6), .call true n_inflate_unpacker_room [(T 5)], none⟩,
 ⟨(some 7), .bin .lss (T 6) (C (1)), none⟩])
 (.cond (T 7)
 (.seq (.reg [⟨(some 4), .mv (C (4)), none⟩])
 .ret)
 .skip))
 (.seq (.reg [⟨(some 8), .mv (T 0), none⟩,
 ⟨(some 9), .mv (T 0), none⟩,
 ⟨(some 10), .nilc (T 9), none⟩,
 ⟨(some 11), .faddr 1 (T 10), none⟩,
 ⟨(some 12), .load none (T 11), none⟩,
 ⟨(some 13), .mv (T 1), none⟩,
 ⟨(some 14), .bslice none [(T 13)], none⟩,
 ⟨(some 15), .app none 1 (T 12) (T 14), none⟩,
 ⟨(some 16), .nilc (T 8), none⟩,
 ⟨(some 17), .faddr 1 (T 16), none⟩,
 ⟨none, .store none (T 17) (T 15), none⟩])
 (.seq (.reg [⟨(some 4), .mv (C (0)), none⟩])
 .ret))))
theorem e_inflate_unpacker_literal : slimC Tryd.prog 18 (Tryd.f42.body.getD .skip) = s_inflate_unpacker_literal := by kernel_rfl
theorem r_inflate_unpacker_literal : slimRes Tryd.prog Tryd.f42 = some [.tmp 4] := by kernel_rfl

/-- The slim code of (*drayage/inflate.unpacker).run. -/
def s_inflate_unpacker_run : SCode :=
 (.seq (.reg [⟨(some 6), .mv (C (0)), none⟩])
 (.seq (.reg [⟨(some 11), .mv (T 0), none⟩,
 ⟨(some 12), .mv (T 1), none⟩,
 ⟨(some 13), .call true n_inflate_unpacker_length [(T 11), (T 12)], none⟩,
 ⟨(some 10), .mv (T 13), none⟩,
 ⟨(some 14), .ext (T 10) 0, none⟩,
 ⟨(some 15), .ext (T 10) 1, none⟩,
 ⟨(some 7), .mv (T 14), none⟩,
 ⟨(some 8), .mv (T 15), none⟩])
 (.seq (.seq (.reg [⟨(some 16), .mv (T 8), none⟩,
 ⟨(some 17), .bin .neq (T 16) (C (0)), none⟩])
 (.cond (T 17)
 (.seq (.reg [⟨(some 18), .mv (T 8), none⟩,
 ⟨(some 6), .mv (T 18), none⟩])
 .ret)
 .skip))
 (.seq (.reg [⟨(some 20), .mv (T 2), none⟩,
 ⟨(some 21), .mv (T 0), none⟩,
 ⟨(some 22), .nilc (T 21), none⟩,
 ⟨(some 23), .faddr 0 (T 22), none⟩,
 ⟨(some 24), .load none (T 23), none⟩,
 ⟨(some 25), .call true n_huff_Tree_Next [(T 20), (T 24)], none⟩,
 ⟨(some 19), .mv (T 25), none⟩,
 ⟨(some 26), .ext (T 19) 0, none⟩,
 ⟨(some 27), .ext (T 19) 1, none⟩,
 ⟨(some 1), .mv (T 26), none⟩,
 ⟨(some 8), .mv (T 27), none⟩])
 (.seq (.seq (.reg [⟨(some 28), .mv (T 8), none⟩,
 ⟨(some 29), .bin .neq (T 28) (C (0)), none⟩])
 (.cond (T 29)
 (.seq (.reg [⟨(some 30), .mv (T 8), none⟩,
 ⟨(some 6), .mv (T 30), none⟩])
 .ret)
 .skip))
 (.seq (.reg [⟨(some 32), .mv (T 0), none⟩,
 ⟨(some 33), .mv (T 1), none⟩,
 ⟨(some 34), .call true n_inflate_unpacker_distance [(T 32), (T 33)], none⟩,
 ⟨(some 31), .mv (T 34), none⟩,
 ⟨(some 35), .ext (T 31) 0, none⟩,
 ⟨(some 36), .ext (T 31) 1, none⟩,
 ⟨(some 9), .mv (T 35), none⟩,
 ⟨(some 8), .mv (T 36), none⟩])
 (.seq (.seq (.reg [⟨(some 37), .mv (T 8), none⟩,
 ⟨(some 38), .bin .neq (T 37) (C (0)), none⟩])
 (.cond (T 38)
 (.seq (.reg [⟨(some 39), .mv (T 8), none⟩,
 ⟨(some 6), .mv (T 39), none⟩])
 .ret)
 .skip))
 (.seq (.seq (.reg [⟨(some 40), .mv (T 9), none⟩,
 ⟨(some 41), .mv (T 0), none⟩,
 ⟨(some 42), .nilc (T 41), none⟩,
 ⟨(some 43), .faddr 1 (T 42), none⟩,
 ⟨(some 44), .load none (T 43), none⟩,
 ⟨(some 45), .len false (T 44), none⟩,
 ⟨(some 46), .bin .gtr (T 40) (T 45), none⟩])
 (.cond (T 46)
 (.seq (.reg [⟨(some 6), .mv (C (3)), none⟩])
 .ret)
 .skip))
 (.seq (.seq (.reg [⟨(some 47), .mv (T 7), none⟩,
 ⟨(some 48), .mv (T 0), none⟩,
 ⟨(some 49), .call true n_inflate_unpacker_room [(T 48)], none⟩,
 ⟨(some 50), .bin .gtr (T 47) (T 49), none⟩])
 (.cond (T 50)
 (.seq (.reg [⟨(some 6), .mv (C (4)), none⟩])
 .ret)
 .skip))
 (.seq (.seq (.reg [⟨(some 51), .mv (T 7), none⟩,
 ⟨(some 52), .mv (C (0)), none⟩])
 (.block 0
 (.loop
 (.seq (.reg [⟨(some 53), .bin .lss (T 52) (T 51), none⟩])
 (.seq (.cond (T 53)
 .skip
 (.exit 0))
 (.seq (.block 1
 (.reg [⟨(some 54), .mv (T 0), none⟩,
 ⟨(some 55), .mv (T 0), none⟩,
 ⟨(some 56), .nilc (T 55), none⟩,
 ⟨(some 57), .faddr 1 (T 56), none⟩,
 ⟨(some 58), .load none (T 57), none⟩,
 ⟨(some 59), .mv (T 0), none⟩,
 ⟨(some 60), .nilc (T 59), none⟩,
 ⟨(some 61), .faddr 1 (T 60), none⟩,
 ⟨(some 62), .load none (T 61), none⟩,
 ⟨(some 63), .mv (T 0), none⟩,
 ⟨(some 64), .nilc (T 63), none⟩,
 ⟨(some 65), .faddr 1 (T 64), none⟩,
 ⟨(some 66), .load none (T 65), none⟩,
 ⟨(some 67), .len false (T 66), none⟩,
 ⟨(some 68), .mv (T 9), none⟩,
 ⟨(some 69), .bin .sub (T 67) (T 68), none⟩,
 ⟨(some 70), .iaddr none (T 62) (T 69), none⟩,
 ⟨(some 71), .load none (T 70), none⟩,
 ⟨(some 72), .bslice none [(T 71)], none⟩,
 ⟨(some 73), .app none 1 (T 58) (T 72), none⟩,
 ⟨(some 74), .nilc (T 54), none⟩,
 ⟨(some 75), .faddr 1 (T 74), none⟩,
 ⟨none, .store none (T 75) (T 73), none⟩]))
 (.reg [⟨(some 76), .bin .add (T 52) (C (1)), none⟩,
 ⟨(some 52), .mv (T 76), none⟩])))))))
 (.seq (.reg [⟨(some 6), .mv (C (0)), none⟩])
 .ret)))))))))))
theorem e_inflate_unpacker_run : slimC Tryd.prog 77 (Tryd.f43.body.getD .skip) = s_inflate_unpacker_run := by kernel_rfl
theorem r_inflate_unpacker_run : slimRes Tryd.prog Tryd.f43 = some [.tmp 6] := by kernel_rfl

/-- The slim code of (*drayage/inflate.unpacker).teller. -/
def s_inflate_unpacker_teller : SCode :=
 (.seq (.reg [⟨(some 4), .mv (.const (.pointer none)), none⟩,
 ⟨(some 5), .mv (C (0)), none⟩])
 (.seq (.reg [⟨(some 10), .mks none 8 [(.int .i64 (0))] (C (19)) (C (19)), none⟩,
 ⟨(some 6), .mv (T 10), none⟩])
 (.seq (.seq (.reg [⟨(some 11), .mv (T 1), none⟩,
 ⟨(some 12), .mv (C (0)), none⟩])
 (.block 0
 (.loop
 (.seq (.reg [⟨(some 13), .bin .lss (T 12) (T 11), none⟩])
 (.seq (.cond (T 13)
 .skip
 (.exit 0))
 (.seq (.block 1
 (.seq (.reg [⟨(some 14), .mv (T 12), none⟩,
 ⟨(some 7), .mv (T 14), none⟩])
 (.seq (.reg [⟨(some 16), .mv (T 0), none⟩,
 ⟨(some 17), .nilc (T 16), none⟩,
 ⟨(some 18), .faddr 0 (T 17), none⟩,
 ⟨(some 19), .load none (T 18), none⟩,
 ⟨(some 20), .call true n_huff_Reader_Take [(T 19), (C (3))], none⟩,
 ⟨(some 15), .mv (T 20), none⟩,
 ⟨(some 21), .ext (T 15) 0, none⟩,
 ⟨(some 22), .ext (T 15) 1, none⟩,
 ⟨(some 8), .mv (T 21), none⟩,
 ⟨(some 9), .mv (T 22), none⟩])
 (.seq (.seq (.reg [⟨(some 23), .mv (T 9), none⟩,
 ⟨(some 24), .un .not (T 23), none⟩])
 (.cond (T 24)
 (.seq (.reg [⟨(some 4), .mv (.const (.pointer none)), none⟩,
 ⟨(some 5), .mv (C (2)), none⟩])
 .ret)
 .skip))
 (.reg [⟨(some 25), .mv (T 6), none⟩,
 ⟨(some 26), .mv (T 7), none⟩,
 ⟨(some 27), .iaddrA 19 none (.global 0) (T 26), none⟩,
 ⟨(some 28), .load none (T 27), none⟩,
 ⟨(some 29), .mv (T 8), none⟩,
 ⟨(some 30), .iaddr none (T 25) (T 28), none⟩,
 ⟨none, .store none (T 30) (T 29), none⟩])))))
 (.reg [⟨(some 31), .bin .add (T 12) (C (1)), none⟩,
 ⟨(some 12), .mv (T 31), none⟩])))))))
 (.seq (.seq (.reg [⟨(some 32), .mv (T 6), none⟩,
 ⟨(some 33), .call true n_huff_Full [(T 32)], none⟩,
 ⟨(some 34), .un .not (T 33), none⟩])
 (.cond (T 34)
 (.seq (.reg [⟨(some 4), .mv (.const (.pointer none)), none⟩,
 ⟨(some 5), .mv (C (3)), none⟩])
 .ret)
 .skip))
 (.seq (.reg [⟨(some 35), .mv (T 6), none⟩,
 ⟨(some 36), .call true n_huff_NewTree [(T 35)], none⟩,
 ⟨(some 37), .ext (T 36) 0, none⟩,
 ⟨(some 38), .ext (T 36) 1, none⟩,
 ⟨(some 4), .mv (T 37), none⟩,
 ⟨(some 5), .mv (T 38), none⟩])
 .ret)))))
theorem e_inflate_unpacker_teller : slimC Tryd.prog 39 (Tryd.f44.body.getD .skip) = s_inflate_unpacker_teller := by kernel_rfl
theorem r_inflate_unpacker_teller : slimRes Tryd.prog Tryd.f44 = some [.tmp 4, .tmp 5] := by kernel_rfl

/-- The slim code of (*drayage/inflate.unpacker).lengths. -/
def s_inflate_unpacker_lengths : SCode :=
 (.seq (.reg [⟨(some 6), .mv (.const (.slice none 0 0)), none⟩,
 ⟨(some 7), .mv (C (0)), none⟩])
 (.seq (.reg [⟨(some 8), .mv (.const (.slice none 0 0)), none⟩])
 (.seq (.block 0
 (.loop
 (.seq (.seq (.reg [⟨(some 14), .mv (T 8), none⟩,
 ⟨(some 15), .len false (T 14), none⟩,
 ⟨(some 16), .mv (T 2), none⟩,
 ⟨(some 17), .bin .lss (T 15) (T 16), none⟩])
 (.cond (T 17)
 .skip
 (.exit 0)))
 (.block 1
 (.seq (.reg [⟨(some 19), .mv (T 1), none⟩,
 ⟨(some 20), .mv (T 0), none⟩,
 ⟨(some 21), .nilc (T 20), none⟩,
 ⟨(some 22), .faddr 0 (T 21), none⟩,
 ⟨(some 23), .load none (T 22), none⟩,
 ⟨(some 24), .call true n_huff_Tree_Next [(T 19), (T 23)], none⟩,
 ⟨(some 18), .mv (T 24), none⟩,
 ⟨(some 25), .ext (T 18) 0, none⟩,
 ⟨(some 26), .ext (T 18) 1, none⟩,
 ⟨(some 9), .mv (T 25), none⟩,
 ⟨(some 10), .mv (T 26), none⟩])
 (.seq (.seq (.reg [⟨(some 27), .mv (T 10), none⟩,
 ⟨(some 28), .bin .neq (T 27) (C (0)), none⟩])
 (.cond (T 28)
 (.seq (.reg [⟨(some 29), .mv (T 10), none⟩,
 ⟨(some 6), .mv (.const (.slice none 0 0)), none⟩,
 ⟨(some 7), .mv (T 29), none⟩])
 .ret)
 .skip))
 (.seq (.reg [⟨(some 30), .mv (T 9), none⟩,
 ⟨(some 11), .mv (T 30), none⟩,
 ⟨(some 12), .mv (C (1)), none⟩,
 ⟨(some 13), .mv (C (0)), none⟩])
 (.seq (.seq (.reg [⟨(some 31), .mv (T 9), none⟩])
 (.block 2
 (.seq (.reg [⟨(some 33), .bin .eql (T 31) (C (16)), none⟩,
 ⟨(some 32), .mv (T 33), none⟩])
 (.cond (T 32)
 (.seq (.seq (.reg [⟨(some 34), .mv (T 8), none⟩,
 ⟨(some 35), .len false (T 34), none⟩,
 ⟨(some 36), .bin .eql (T 35) (C (0)), none⟩])
 (.cond (T 36)
 (.seq (.reg [⟨(some 6), .mv (.const (.slice none 0 0)), none⟩,
 ⟨(some 7), .mv (C (3)), none⟩])
 .ret)
 .skip))
 (.reg [⟨(some 37), .mv (T 8), none⟩,
 ⟨(some 38), .mv (T 8), none⟩,
 ⟨(some 39), .len false (T 38), none⟩,
 ⟨(some 40), .bin .sub (T 39) (C (1)), none⟩,
 ⟨(some 41), .iaddr none (T 37) (T 40), none⟩,
 ⟨(some 42), .load none (T 41), none⟩,
 ⟨(some 11), .mv (T 42), none⟩,
 ⟨(some 12), .mv (C (3)), none⟩,
 ⟨(some 13), .mv (C (2)), none⟩]))
 (.seq (.reg [⟨(some 44), .bin .eql (T 31) (C (17)), none⟩,
 ⟨(some 43), .mv (T 44), none⟩])
 (.cond (T 43)
 (.reg [⟨(some 11), .mv (C (0)), none⟩,
 ⟨(some 12), .mv (C (3)), none⟩,
 ⟨(some 13), .mv (C (3)), none⟩])
 (.seq (.reg [⟨(some 46), .bin .eql (T 31) (C (18)), none⟩,
 ⟨(some 45), .mv (T 46), none⟩])
 (.cond (T 45)
 (.reg [⟨(some 11), .mv (C (0)), none⟩,
 ⟨(some 12), .mv (C (11)), none⟩,
 ⟨(some 13), .mv (C (7)), none⟩])
 .skip))))))))
 (.seq (.seq (.reg [⟨(some 48), .mv (T 0), none⟩,
 ⟨(some 49), .mv (T 12), none⟩,
 ⟨(some 50), .mv (T 13), none⟩,
 ⟨(some 51), .call true n_inflate_unpacker_plus [(T 48), (T 49), (T 50)], none⟩,
 ⟨(some 47), .mv (T 51), none⟩,
 ⟨(some 52), .ext (T 47) 0, none⟩,
 ⟨(some 53), .ext (T 47) 1, none⟩,
 ⟨(some 12), .mv (T 52), none⟩,
 ⟨(some 10), .mv (T 53), none⟩])
 (.seq (.reg [⟨(some 54), .mv (T 10), none⟩,
 ⟨(some 55), .bin .neq (T 54) (C (0)), none⟩])
 (.cond (T 55)
 (.seq (.reg [⟨(some 56), .mv (T 10), none⟩,
 ⟨(some 6), .mv (.const (.slice none 0 0)), none⟩,
 ⟨(some 7), .mv (T 56), none⟩])
 .ret)
 .skip)))
 (.seq (.seq (.reg [⟨(some 57), .mv (T 12), none⟩,
 ⟨(some 58), .mv (T 2), none⟩,
 ⟨(some 59), .mv (T 8), none⟩,
 ⟨(some 60), .len false (T 59), none⟩,
 ⟨(some 61), .bin .sub (T 58) (T 60), none⟩,
 ⟨(some 62), .bin .gtr (T 57) (T 61), none⟩])
 (.cond (T 62)
 (.seq (.reg [⟨(some 6), .mv (.const (.slice none 0 0)), none⟩,
 ⟨(some 7), .mv (C (3)), none⟩])
 .ret)
 .skip))
 (.reg [⟨(some 63), .mv (T 8), none⟩,
 ⟨(some 64), .mv (T 11), none⟩,
 ⟨(some 65), .bsl none [(T 64)], none⟩,
 ⟨(some 66), .mv (T 12), none⟩,
 ⟨(some 67), .call true n_slices_Repeatintint [(T 65), (T 66)], none⟩,
 ⟨(some 68), .app none 8 (T 63) (T 67), none⟩,
 ⟨(some 8), .mv (T 68), none⟩])))))))))))
 (.seq (.reg [⟨(some 69), .mv (T 8), none⟩,
 ⟨(some 6), .mv (T 69), none⟩,
 ⟨(some 7), .mv (C (0)), none⟩])
 .ret))))
theorem e_inflate_unpacker_lengths : slimC Tryd.prog 70 (Tryd.f45.body.getD .skip) = s_inflate_unpacker_lengths := by kernel_rfl
theorem r_inflate_unpacker_lengths : slimRes Tryd.prog Tryd.f45 = some [.tmp 6, .tmp 7] := by kernel_rfl

/-- The slim code of drayage/inflate.codesOf. -/
def s_inflate_codesOf : SCode :=
 (.seq (.reg [⟨(some 4), .mv (.const (.pointer none)), none⟩,
 ⟨(some 5), .mv (C (0)), none⟩])
 (.seq (.seq (.reg [⟨(some 7), .mv (T 0), none⟩,
 ⟨(some 8), .iaddr none (T 7) (C (256)), none⟩,
 ⟨(some 9), .load none (T 8), none⟩,
 ⟨(some 10), .bin .eql (T 9) (C (0)), none⟩,
 ⟨(some 11), .mv (T 10), none⟩,
 ⟨(some 12), .mv (T 0), (some (11, false))⟩,
 ⟨(some 13), .call true n_huff_Full [(T 12)], (some (11, false))⟩,
 ⟨(some 14), .un .not (T 13), (some (11, false))⟩,
 ⟨(some 15), .pick (T 11) (.const (.bool true)) (T 14), none⟩,
 ⟨(some 16), .mv (T 15), none⟩,
 ⟨(some 17), .mv (T 1), (some (16, false))⟩,
 ⟨(some 18), .call true n_inflate_fewOrFull [(T 17)], (some (16, false))⟩,
 ⟨(some 19), .un .not (T 18), (some (16, false))⟩,
 ⟨(some 20), .pick (T 16) (.const (.bool true)) (T 19), none⟩])
 (.cond (T 20)
 (.seq (.reg [⟨(some 4), .mv (.const (.pointer none)), none⟩,
 ⟨(some 5), .mv (C (3)), none⟩])
 .ret)
 .skip))
 (.seq (.reg [⟨(some 21), .build [(.pointer none), (.pointer none)] [], none⟩,
 ⟨(some 22), .box (T 21), none⟩,
 ⟨(some 6), .mv (T 22), none⟩])
 (.seq (.reg [⟨(some 24), .mv (T 6), none⟩,
 ⟨(some 25), .mv (T 0), none⟩,
 ⟨(some 26), .call true n_huff_NewTree [(T 25)], none⟩,
 ⟨(some 23), .mv (T 26), none⟩,
 ⟨(some 27), .ext (T 23) 0, none⟩,
 ⟨(some 28), .ext (T 23) 1, none⟩,
 ⟨(some 29), .nilc (T 24), none⟩,
 ⟨(some 30), .faddr 0 (T 29), none⟩,
 ⟨none, .store none (T 30) (T 27), none⟩])
 (.seq (.reg [⟨(some 32), .mv (T 6), none⟩,
 ⟨(some 33), .mv (T 1), none⟩,
 ⟨(some 34), .call true n_huff_NewTree [(T 33)], none⟩,
 ⟨(some 31), .mv (T 34), none⟩,
 ⟨(some 35), .ext (T 31) 0, none⟩,
 ⟨(some 36), .ext (T 31) 1, none⟩,
 ⟨(some 37), .nilc (T 32), none⟩,
 ⟨(some 38), .faddr 1 (T 37), none⟩,
 ⟨none, .store none (T 38) (T 35), none⟩])
 (.seq (.reg [⟨(some 39), .mv (T 6), none⟩,
 ⟨(some 4), .mv (T 39), none⟩,
 ⟨(some 5), .mv (C (0)), none⟩])
 .ret))))))
theorem e_inflate_codesOf : slimC Tryd.prog 40 (Tryd.f46.body.getD .skip) = s_inflate_codesOf := by kernel_rfl
theorem r_inflate_codesOf : slimRes Tryd.prog Tryd.f46 = some [.tmp 4, .tmp 5] := by kernel_rfl

/-- The slim code of drayage/drayageref03.Next. -/
def s_drayageref03_Next : SCode :=
 (.seq (.reg [⟨(some 6), .alloc [(.int .i64 (0)), (.slice none 0 0), (.int .i64 (0))], none⟩])
 (.seq (.seq (.reg [⟨(some 7), .mv (C (1)), none⟩])
 (.block 0
 (.loop
 (.seq (.seq (.reg [⟨(some 11), .mv (T 7), none⟩,
 ⟨(some 12), .bin .leq (T 11) (C (15)), none⟩])
 (.cond (T 12)
 .skip
 (.exit 0)))
 (.seq (.block 1
 (.seq (.seq (.reg [⟨(some 15), .mv (T 7), none⟩,
 ⟨(some 16), .mv (T 2), none⟩,
 ⟨(some 17), .len false (T 16), none⟩,
 ⟨(some 18), .bin .gtr (T 15) (T 17), none⟩])
 (.cond (T 18)
 (.seq (.reg [⟨(some 19), .build [(.int .i64 (0)), (.slice none 0 0), (.int .i64 (0))] [(2, 1, (C (2)))], none⟩,
 ⟨none, .store (some 3) (T 6) (T 19), none⟩])
 .ret)
 .skip))
 (.seq (.reg [⟨(some 8), .mv (.const (.bool false)), none⟩])
 (.seq (.seq (.reg [⟨(some 9), .mv (C (0)), none⟩])
 (.block 2
 (.loop
 (.seq (.seq (.reg [⟨(some 20), .mv (T 9), none⟩,
 ⟨(some 21), .mv (T 0), none⟩,
 ⟨(some 22), .len false (T 21), none⟩,
 ⟨(some 23), .bin .lss (T 20) (T 22), none⟩])
 (.cond (T 23)
 .skip
 (.exit 2)))
 (.seq (.block 3
 (.seq (.seq (.reg [⟨(some 26), .mv (T 0), none⟩,
 ⟨(some 27), .mv (T 9), none⟩,
 ⟨(some 28), .iaddr none (T 26) (T 27), none⟩,
 ⟨(some 29), .load none (T 28), none⟩,
 ⟨(some 30), .bin .eql (T 29) (C (0)), none⟩])
 (.cond (T 30)
 (.exit 3)
 .skip))
 (.seq (.reg [⟨(some 31), .mv (T 1), none⟩,
 ⟨(some 32), .mv (T 9), none⟩,
 ⟨(some 33), .iaddr none (T 31) (T 32), none⟩,
 ⟨(some 34), .load none (T 33), none⟩,
 ⟨(some 35), .mv (T 0), none⟩,
 ⟨(some 36), .mv (T 9), none⟩,
 ⟨(some 37), .iaddr none (T 35) (T 36), none⟩,
 ⟨(some 38), .load none (T 37), none⟩,
 ⟨(some 39), .call true n_drayageref03_Row [(T 34), (T 38)], none⟩,
 ⟨(some 10), .mv (T 39), none⟩])
 (.seq (.seq (.reg [⟨(some 40), .mv (T 0), none⟩,
 ⟨(some 41), .mv (T 9), none⟩,
 ⟨(some 42), .iaddr none (T 40) (T 41), none⟩,
 ⟨(some 43), .load none (T 42), none⟩,
 ⟨(some 44), .mv (T 7), none⟩,
 ⟨(some 45), .bin .eql (T 43) (T 44), none⟩,
 ⟨(some 46), .mv (T 45), none⟩,
 ⟨(some 47), .mv (T 10), (some (46, true))⟩,
 ⟨(some 48), .mv (T 2), (some (46, true))⟩,
 ⟨(some 49), .call true n_drayageref03_head [(T 47), (T 48)], (some (46, true))⟩,
 ⟨(some 50), .pick (T 46) (T 49) (.const (.bool false)), none⟩])
 (.cond (T 50)
 (.seq (.reg [⟨(some 51), .mv (T 9), none⟩,
 ⟨(some 52), .mv (T 2), none⟩,
 ⟨(some 53), .mv (T 7), none⟩,
 ⟨(some 54), .sl none (T 52) (some (T 53)) none, none⟩,
 ⟨(some 55), .build [(.int .i64 (0)), (.slice none 0 0), (.int .i64 (0))] [(0, 1, (T 51)), (1, 1, (T 54))], none⟩,
 ⟨none, .store (some 3) (T 6) (T 55), none⟩])
 .ret)
 .skip))
 (.reg [⟨(some 56), .mv (T 8), none⟩,
 ⟨(some 57), .mv (T 56), none⟩,
 ⟨(some 58), .mv (T 2), (some (57, false))⟩,
 ⟨(some 59), .mv (T 7), (some (57, false))⟩,
 ⟨(some 60), .sl none (T 58) none (some (T 59)), (some (57, false))⟩,
 ⟨(some 61), .mv (T 10), (some (57, false))⟩,
 ⟨(some 62), .call true n_drayageref03_head [(T 60), (T 61)], (some (57, false))⟩,
 ⟨(some 63), .pick (T 57) (.const (.bool true)) (T 62), none⟩,
 ⟨(some 8), .mv (T 63), none⟩])))))
 (.reg [⟨(some 24), .mv (T 9), none⟩,
 ⟨(some 25), .bin .add (T 24) (C (1)), none⟩,
 ⟨(some 9), .mv (T 25), none⟩]))))))
 (.seq (.reg [⟨(some 64), .mv (T 8), none⟩,
 ⟨(some 65), .un .not (T 64), none⟩])
 (.cond (T 65)
 (.seq (.reg [⟨(some 66), .mv (T 2), none⟩,
 ⟨(some 67), .mv (T 7), none⟩,
 ⟨(some 68), .sl none (T 66) (some (T 67)) none, none⟩,
 ⟨(some 69), .build [(.int .i64 (0)), (.slice none 0 0), (.int .i64 (0))] [(1, 1, (T 68)), (2, 1, (C (3)))], none⟩,
 ⟨none, .store (some 3) (T 6) (T 69), none⟩])
 .ret)
 .skip))))))
 (.reg [⟨(some 13), .mv (T 7), none⟩,
 ⟨(some 14), .bin .add (T 13) (C (1)), none⟩,
 ⟨(some 7), .mv (T 14), none⟩]))))))
 (.seq (.reg [⟨(some 70), .mv (T 2), none⟩,
 ⟨(some 71), .sl none (T 70) (some (C (15))) none, none⟩,
 ⟨(some 72), .build [(.int .i64 (0)), (.slice none 0 0), (.int .i64 (0))] [(1, 1, (T 71)), (2, 1, (C (3)))], none⟩,
 ⟨none, .store (some 3) (T 6) (T 72), none⟩])
 .ret)))
theorem e_drayageref03_Next : slimC Tryd.prog 73 (Tryd.f47.body.getD .skip) = s_drayageref03_Next := by kernel_rfl
theorem r_drayageref03_Next : slimRes Tryd.prog Tryd.f47 = some [.cell 6 (some 3)] := by kernel_rfl

/-- The slim code of drayage/drayageref04.power. -/
def s_drayageref04_power : SCode :=
 (.seq (.reg [⟨(some 2), .mv (C (0)), none⟩])
 (.seq (.reg [⟨(some 3), .mv (C (1)), none⟩])
 (.seq (.seq (.reg [⟨(some 4), .mv (C (0)), none⟩])
 (.block 0
 (.loop
 (.seq (.seq (.reg [⟨(some 5), .mv (T 4), none⟩,
 ⟨(some 6), .mv (T 0), none⟩,
 ⟨(some 7), .bin .lss (T 5) (T 6), none⟩])
 (.cond (T 7)
 .skip
 (.exit 0)))
 (.seq (.block 1
 (.reg [⟨(some 10), .mv (T 3), none⟩,
 ⟨(some 11), .bin .mul (C (2)) (T 10), none⟩,
 ⟨(some 3), .mv (T 11), none⟩]))
 (.reg [⟨(some 8), .mv (T 4), none⟩,
 ⟨(some 9), .bin .add (T 8) (C (1)), none⟩,
 ⟨(some 4), .mv (T 9), none⟩]))))))
 (.seq (.reg [⟨(some 12), .mv (T 3), none⟩,
 ⟨(some 2), .mv (T 12), none⟩])
 .ret))))
theorem e_drayageref04_power : slimC Tryd.prog 13 (Tryd.f48.body.getD .skip) = s_drayageref04_power := by kernel_rfl
theorem r_drayageref04_power : slimRes Tryd.prog Tryd.f48 = some [.tmp 2] := by kernel_rfl

/-- The slim code of drayage/drayageref03.Check. -/
def s_drayageref03_Check : SCode :=
 (.seq (.reg [⟨(some 2), .mv (C (0)), none⟩])
 (.seq (.seq (.reg [⟨(some 4), .mv (T 0), none⟩,
 ⟨(some 5), .len false (T 4), none⟩,
 ⟨(some 6), .bin .gtr (T 5) (C (320)), none⟩])
 (.cond (T 6)
 (.seq (.reg [⟨(some 2), .mv (C (4)), none⟩])
 .ret)
 .skip))
 (.seq (.seq (.reg [⟨(some 3), .mv (C (0)), none⟩])
 (.block 0
 (.loop
 (.seq (.seq (.reg [⟨(some 7), .mv (T 3), none⟩,
 ⟨(some 8), .mv (T 0), none⟩,
 ⟨(some 9), .len false (T 8), none⟩,
 ⟨(some 10), .bin .lss (T 7) (T 9), none⟩])
 (.cond (T 10)
 .skip
 (.exit 0)))
 (.seq (.block 1
 (.seq (.reg [⟨(some 13), .mv (T 0), none⟩,
 ⟨(some 14), .mv (T 3), none⟩,
 ⟨(some 15), .iaddr none (T 13) (T 14), none⟩,
 ⟨(some 16), .load none (T 15), none⟩,
 ⟨(some 17), .bin .lss (T 16) (C (0)), none⟩,
 ⟨(some 18), .mv (T 17), none⟩,
 ⟨(some 19), .mv (T 0), (some (18, false))⟩,
 ⟨(some 20), .mv (T 3), (some (18, false))⟩,
 ⟨(some 21), .iaddr none (T 19) (T 20), (some (18, false))⟩,
 ⟨(some 22), .load none (T 21), (some (18, false))⟩,
 ⟨(some 23), .bin .gtr (T 22) (C (15)), (some (18, false))⟩,
 ⟨(some 24), .pick (T 18) (.const (.bool true)) (T 23), none⟩])
 (.cond (T 24)
 (.seq (.reg [⟨(some 2), .mv (C (1)), none⟩])
 .ret)
 .skip)))
 (.reg [⟨(some 11), .mv (T 3), none⟩,
 ⟨(some 12), .bin .add (T 11) (C (1)), none⟩,
 ⟨(some 3), .mv (T 12), none⟩]))))))
 (.seq (.seq (.reg [⟨(some 25), .mv (T 0), none⟩,
 ⟨(some 26), .call true n_drayageref03_share [(T 25)], none⟩,
 ⟨(some 27), .bin .gtr (T 26) (C (32768)), none⟩])
 (.cond (T 27)
 (.seq (.reg [⟨(some 2), .mv (C (3)), none⟩])
 .ret)
 .skip))
 (.seq (.reg [⟨(some 2), .mv (C (0)), none⟩])
 .ret)))))
theorem e_drayageref03_Check : slimC Tryd.prog 28 (Tryd.f49.body.getD .skip) = s_drayageref03_Check := by kernel_rfl
theorem r_drayageref03_Check : slimRes Tryd.prog Tryd.f49 = some [.tmp 2] := by kernel_rfl

/-- The slim code of drayage/drayageref03.share. -/
def s_drayageref03_share : SCode :=
 (.seq (.reg [⟨(some 2), .mv (C (0)), none⟩])
 (.seq (.reg [⟨(some 3), .mv (C (0)), none⟩])
 (.seq (.seq (.reg [⟨(some 4), .mv (C (0)), none⟩])
 (.block 0
 (.loop
 (.seq (.seq (.reg [⟨(some 7), .mv (T 4), none⟩,
 ⟨(some 8), .mv (T 0), none⟩,
 ⟨(some 9), .len false (T 8), none⟩,
 ⟨(some 10), .bin .lss (T 7) (T 9), none⟩])
 (.cond (T 10)
 .skip
 (.exit 0)))
 (.seq (.block 1
 (.seq (.reg [⟨(some 13), .mv (T 0), none⟩,
 ⟨(some 14), .mv (T 4), none⟩,
 ⟨(some 15), .iaddr none (T 13) (T 14), none⟩,
 ⟨(some 16), .load none (T 15), none⟩,
 ⟨(some 17), .bin .gtr (T 16) (C (0)), none⟩])
 (.cond (T 17)
 (.seq (.reg [⟨(some 5), .mv (C (32768)), none⟩])
 (.seq (.seq (.reg [⟨(some 6), .mv (C (0)), none⟩])
 (.block 2
 (.loop
 (.seq (.seq (.reg [⟨(some 18), .mv (T 6), none⟩,
 ⟨(some 19), .mv (T 0), none⟩,
 ⟨(some 20), .mv (T 4), none⟩,
 ⟨(some 21), .iaddr none (T 19) (T 20), none⟩,
 ⟨(some 22), .load none (T 21), none⟩,
 ⟨(some 23), .bin .lss (T 18) (T 22), none⟩])
 (.cond (T 23)
 .skip
 (.exit 2)))
 (.seq (.block 3
 (.reg [⟨(some 26), .mv (T 5), none⟩,
 ⟨(some 27), .bin .quo (T 26) (C (2)), none⟩,
 ⟨(some 5), .mv (T 27), none⟩]))
 (.reg [⟨(some 24), .mv (T 6), none⟩,
 ⟨(some 25), .bin .add (T 24) (C (1)), none⟩,
 ⟨(some 6), .mv (T 25), none⟩]))))))
 (.reg [⟨(some 28), .mv (T 3), none⟩,
 ⟨(some 29), .mv (T 5), none⟩,
 ⟨(some 30), .bin .add (T 28) (T 29), none⟩,
 ⟨(some 3), .mv (T 30), none⟩])))
 .skip)))
 (.reg [⟨(some 11), .mv (T 4), none⟩,
 ⟨(some 12), .bin .add (T 11) (C (1)), none⟩,
 ⟨(some 4), .mv (T 12), none⟩]))))))
 (.seq (.reg [⟨(some 31), .mv (T 3), none⟩,
 ⟨(some 2), .mv (T 31), none⟩])
 .ret))))
theorem e_drayageref03_share : slimC Tryd.prog 32 (Tryd.f50.body.getD .skip) = s_drayageref03_share := by kernel_rfl
theorem r_drayageref03_share : slimRes Tryd.prog Tryd.f50 = some [.tmp 2] := by kernel_rfl

/-- The slim code of drayage/huff.Check. -/
def s_huff_Check : SCode :=
 (.seq (.reg [⟨(some 2), .mv (C (0)), none⟩])
 (.seq (.seq (.reg [⟨(some 5), .mv (T 0), none⟩,
 ⟨(some 6), .len false (T 5), none⟩,
 ⟨(some 7), .bin .gtr (T 6) (C (320)), none⟩])
 (.cond (T 7)
 (.seq (.reg [⟨(some 2), .mv (C (4)), none⟩])
 .ret)
 .skip))
 (.seq (.seq (.reg [⟨(some 8), .mv (T 0), none⟩,
 ⟨(some 9), .len false (T 8), none⟩,
 ⟨(some 10), .mv (C (0)), none⟩])
 (.block 0
 (.loop
 (.seq (.reg [⟨(some 11), .bin .lss (T 10) (T 9), none⟩])
 (.seq (.cond (T 11)
 .skip
 (.exit 0))
 (.seq (.block 1
 (.seq (.reg [⟨(some 12), .iaddr none (T 8) (T 10), none⟩,
 ⟨(some 13), .load none (T 12), none⟩,
 ⟨(some 4), .mv (T 13), none⟩])
 (.seq (.reg [⟨(some 14), .mv (T 4), none⟩,
 ⟨(some 15), .bin .lss (T 14) (C (0)), none⟩,
 ⟨(some 16), .mv (T 15), none⟩,
 ⟨(some 17), .mv (T 4), (some (16, false))⟩,
 ⟨(some 18), .bin .gtr (T 17) (C (15)), (some (16, false))⟩,
 ⟨(some 19), .pick (T 16) (.const (.bool true)) (T 18), none⟩])
 (.cond (T 19)
 (.seq (.reg [⟨(some 2), .mv (C (1)), none⟩])
 .ret)
 .skip))))
 (.reg [⟨(some 20), .bin .add (T 10) (C (1)), none⟩,
 ⟨(some 10), .mv (T 20), none⟩])))))))
 (.seq (.seq (.reg [⟨(some 21), .mv (T 0), none⟩,
 ⟨(some 22), .call true n_huff_taken [(T 21)], none⟩,
 ⟨(some 23), .bin .gtr (T 22) (C (32768)), none⟩])
 (.cond (T 23)
 (.seq (.reg [⟨(some 2), .mv (C (3)), none⟩])
 .ret)
 .skip))
 (.seq (.reg [⟨(some 2), .mv (C (0)), none⟩])
 .ret)))))
theorem e_huff_Check : slimC Tryd.prog 24 (Tryd.f51.body.getD .skip) = s_huff_Check := by kernel_rfl
theorem r_huff_Check : slimRes Tryd.prog Tryd.f51 = some [.tmp 2] := by kernel_rfl

/-- The slim code of drayage/huff.firstRows. -/
def s_huff_firstRows : SCode :=
 (.seq (.reg [⟨(some 2), .alloc (List.replicate 16 (.int .i64 (0))), none⟩])
 (.seq (.reg [⟨(some 3), .alloc (List.replicate 16 (.int .i64 (0))), none⟩])
 (.seq (.seq (.reg [⟨(some 8), .mv (T 0), none⟩,
 ⟨(some 9), .len false (T 8), none⟩,
 ⟨(some 10), .mv (C (0)), none⟩])
 (.block 0
 (.loop
 (.seq (.reg [⟨(some 11), .bin .lss (T 10) (T 9), none⟩])
 (.seq (.cond (T 11)
 .skip
 (.exit 0))
 (.seq (.block 1
 (.seq (.reg [⟨(some 12), .iaddr none (T 8) (T 10), none⟩,
 ⟨(some 13), .load none (T 12), none⟩,
 ⟨(some 5), .mv (T 13), none⟩])
 (.reg [⟨(some 14), .mv (T 5), none⟩,
 ⟨(some 15), .iaddrA 16 none (T 3) (T 14), none⟩,
 ⟨(some 16), .load none (T 15), none⟩,
 ⟨(some 17), .bin .add (T 16) (C (1)), none⟩,
 ⟨(some 18), .iaddrA 16 none (T 3) (T 14), none⟩,
 ⟨none, .store none (T 18) (T 17), none⟩])))
 (.reg [⟨(some 19), .bin .add (T 10) (C (1)), none⟩,
 ⟨(some 10), .mv (T 19), none⟩])))))))
 (.seq (.reg [⟨(some 20), .iaddrA 16 none (T 3) (C (0)), none⟩,
 ⟨none, .store none (T 20) (C (0)), none⟩])
 (.seq (.reg [⟨(some 6), .alloc (List.replicate 16 (.int .i64 (0))), none⟩])
 (.seq (.seq (.reg [⟨(some 21), .mv (C (0)), none⟩])
 (.block 2
 (.loop
 (.seq (.reg [⟨(some 22), .bin .lss (T 21) (C (15)), none⟩])
 (.seq (.cond (T 22)
 .skip
 (.exit 2))
 (.seq (.block 3
 (.seq (.reg [⟨(some 23), .mv (T 21), none⟩,
 ⟨(some 7), .mv (T 23), none⟩])
 (.reg [⟨(some 24), .mv (T 7), none⟩,
 ⟨(some 25), .bin .add (T 24) (C (1)), none⟩,
 ⟨(some 26), .mv (T 7), none⟩,
 ⟨(some 27), .iaddrA 16 none (T 6) (T 26), none⟩,
 ⟨(some 28), .load none (T 27), none⟩,
 ⟨(some 29), .mv (T 7), none⟩,
 ⟨(some 30), .iaddrA 16 none (T 3) (T 29), none⟩,
 ⟨(some 31), .load none (T 30), none⟩,
 ⟨(some 32), .bin .add (T 28) (T 31), none⟩,
 ⟨(some 33), .bin .shl (T 32) (.const (.int .u64 (1))), none⟩,
 ⟨(some 34), .iaddrA 16 none (T 6) (T 25), none⟩,
 ⟨none, .store none (T 34) (T 33), none⟩])))
 (.reg [⟨(some 35), .bin .add (T 21) (C (1)), none⟩,
 ⟨(some 21), .mv (T 35), none⟩])))))))
 (.seq (.reg [⟨(some 36), .load (some 16) (T 6), none⟩,
 ⟨none, .store (some 16) (T 2) (T 36), none⟩])
 .ret)))))))
theorem e_huff_firstRows : slimC Tryd.prog 37 (Tryd.f52.body.getD .skip) = s_huff_firstRows := by kernel_rfl
theorem r_huff_firstRows : slimRes Tryd.prog Tryd.f52 = some [.cell 2 (some 16)] := by kernel_rfl

/-- The slim code of drayage/huff.taken. -/
def s_huff_taken : SCode :=
 (.seq (.reg [⟨(some 2), .mv (C (0)), none⟩])
 (.seq (.reg [⟨(some 3), .mv (C (0)), none⟩])
 (.seq (.seq (.reg [⟨(some 6), .mv (T 0), none⟩,
 ⟨(some 7), .len false (T 6), none⟩,
 ⟨(some 8), .mv (C (0)), none⟩])
 (.block 0
 (.loop
 (.seq (.reg [⟨(some 9), .bin .lss (T 8) (T 7), none⟩])
 (.seq (.cond (T 9)
 .skip
 (.exit 0))
 (.seq (.block 1
 (.seq (.reg [⟨(some 10), .iaddr none (T 6) (T 8), none⟩,
 ⟨(some 11), .load none (T 10), none⟩,
 ⟨(some 5), .mv (T 11), none⟩])
 (.seq (.reg [⟨(some 12), .mv (T 5), none⟩,
 ⟨(some 13), .bin .gtr (T 12) (C (0)), none⟩])
 (.cond (T 13)
 (.reg [⟨(some 14), .mv (T 3), none⟩,
 ⟨(some 15), .mv (T 5), none⟩,
 ⟨(some 16), .bin .shr (C (32768)) (T 15), none⟩,
 ⟨(some 17), .bin .add (T 14) (T 16), none⟩,
 ⟨(some 3), .mv (T 17), none⟩])
 .skip))))
 (.reg [⟨(some 18), .bin .add (T 8) (C (1)), none⟩,
 ⟨(some 8), .mv (T 18), none⟩])))))))
 (.seq (.reg [⟨(some 19), .mv (T 3), none⟩,
 ⟨(some 2), .mv (T 19), none⟩])
 .ret))))
theorem e_huff_taken : slimC Tryd.prog 20 (Tryd.f53.body.getD .skip) = s_huff_taken := by kernel_rfl
theorem r_huff_taken : slimRes Tryd.prog Tryd.f53 = some [.tmp 2] := by kernel_rfl

/-- The slim code of slices.Grow[[]int,int]. -/
def s_slices_Growintint : SCode :=
 (.seq (.reg [⟨(some 4), .mv (.const (.slice none 0 0)), none⟩])
 (.seq (.seq (.reg [⟨(some 5), .mv (T 1), none⟩,
 ⟨(some 6), .bin .lss (T 5) (C (0)), none⟩])
 (.cond (T 6)
 (.reg [⟨(some 7), .no, none⟩,
 ⟨none, .no, none⟩])
 .skip))
 (.seq (.seq (.reg [⟨(some 8), .mv (T 1), none⟩,
 ⟨(some 9), .mv (T 0), none⟩,
 ⟨(some 10), .capn (T 9), none⟩,
 ⟨(some 11), .mv (T 0), none⟩,
 ⟨(some 12), .len false (T 11), none⟩,
 ⟨(some 13), .bin .sub (T 10) (T 12), none⟩,
 ⟨(some 14), .bin .sub (T 8) (T 13), none⟩,
 ⟨(some 1), .mv (T 14), none⟩])
 (.seq (.reg [⟨(some 15), .mv (T 1), none⟩,
 ⟨(some 16), .bin .gtr (T 15) (C (0)), none⟩])
 (.cond (T 16)
 (.reg [⟨(some 17), .mv (T 0), none⟩,
 ⟨(some 18), .mv (T 0), none⟩,
 ⟨(some 19), .capn (T 18), none⟩,
 ⟨(some 20), .sl none (T 17) none (some (T 19)), none⟩,
 ⟨(some 21), .mv (T 1), none⟩,
 ⟨(some 22), .appz none 8 [(.int .i64 (0))] (T 20) (T 21), none⟩,
 ⟨(some 23), .mv (T 0), none⟩,
 ⟨(some 24), .len false (T 23), none⟩,
 ⟨(some 25), .sl none (T 22) none (some (T 24)), none⟩,
 ⟨(some 0), .mv (T 25), none⟩])
 .skip)))
 (.seq (.reg [⟨(some 26), .mv (T 0), none⟩,
 ⟨(some 4), .mv (T 26), none⟩])
 .ret))))
theorem e_slices_Growintint : slimC Tryd.prog 27 (Tryd.f54.body.getD .skip) = s_slices_Growintint := by kernel_rfl
theorem r_slices_Growintint : slimRes Tryd.prog Tryd.f54 = some [.tmp 4] := by kernel_rfl

/-- The slim code of math/bits.Mul. -/
def s_bits_Mul : SCode :=
 (.seq (.reg [⟨(some 4), .mv (.const (.int .u64 (0))), none⟩,
 ⟨(some 5), .mv (.const (.int .u64 (0))), none⟩])
 (.seq (.cond (.const (.bool false))
 (.seq (.reg [⟨(some 11), .mv (T 0), none⟩,
 ⟨(some 12), .ci .u32 (T 11), none⟩,
 ⟨(some 13), .mv (T 1), none⟩,
 ⟨(some 14), .ci .u32 (T 13), none⟩,
 ⟨(some 15), .call true n_bits_Mul32 [(T 12), (T 14)], none⟩,
 ⟨(some 10), .mv (T 15), none⟩,
 ⟨(some 16), .ext (T 10) 0, none⟩,
 ⟨(some 17), .ext (T 10) 1, none⟩,
 ⟨(some 6), .mv (T 16), none⟩,
 ⟨(some 7), .mv (T 17), none⟩])
 (.seq (.reg [⟨(some 18), .mv (T 6), none⟩,
 ⟨(some 19), .ci .u64 (T 18), none⟩,
 ⟨(some 20), .mv (T 7), none⟩,
 ⟨(some 21), .ci .u64 (T 20), none⟩,
 ⟨(some 4), .mv (T 19), none⟩,
 ⟨(some 5), .mv (T 21), none⟩])
 .ret))
 .skip)
 (.seq (.reg [⟨(some 23), .mv (T 0), none⟩,
 ⟨(some 24), .mv (T 1), none⟩,
 ⟨(some 25), .call true n_bits_Mul64 [(T 23), (T 24)], none⟩,
 ⟨(some 22), .mv (T 25), none⟩,
 ⟨(some 26), .ext (T 22) 0, none⟩,
 ⟨(some 27), .ext (T 22) 1, none⟩,
 ⟨(some 8), .mv (T 26), none⟩,
 ⟨(some 9), .mv (T 27), none⟩])
 (.seq (.reg [⟨(some 28), .mv (T 8), none⟩,
 ⟨(some 29), .mv (T 9), none⟩,
 ⟨(some 4), .mv (T 28), none⟩,
 ⟨(some 5), .mv (T 29), none⟩])
 .ret))))
theorem e_bits_Mul : slimC Tryd.prog 30 (Tryd.f55.body.getD .skip) = s_bits_Mul := by kernel_rfl
theorem r_bits_Mul : slimRes Tryd.prog Tryd.f55 = some [.tmp 4, .tmp 5] := by kernel_rfl

/-- The slim code of (*drayage/huff.Tree).begins. -/
def s_huff_Tree_begins : SCode :=
 (.seq (.reg [⟨(some 6), .mv (.const (.bool false)), none⟩])
 (.seq (.reg [⟨(some 7), .mv (T 1), none⟩,
 ⟨(some 8), .mv (T 2), none⟩,
 ⟨(some 9), .bin .sub (C (15)) (T 8), none⟩,
 ⟨(some 10), .bin .shl (T 7) (T 9), none⟩,
 ⟨(some 11), .mv (T 0), none⟩,
 ⟨(some 12), .nilc (T 11), none⟩,
 ⟨(some 13), .faddr 32 (T 12), none⟩,
 ⟨(some 14), .load none (T 13), none⟩,
 ⟨(some 15), .bin .lss (T 10) (T 14), none⟩,
 ⟨(some 6), .mv (T 15), none⟩])
 .ret))
theorem e_huff_Tree_begins : slimC Tryd.prog 16 (Tryd.f56.body.getD .skip) = s_huff_Tree_begins := by kernel_rfl
theorem r_huff_Tree_begins : slimRes Tryd.prog Tryd.f56 = some [.tmp 6] := by kernel_rfl

/-- The slim code of (*drayage/inflate.unpacker).length. -/
def s_inflate_unpacker_length : SCode :=
 (.seq (.reg [⟨(some 4), .mv (C (0)), none⟩,
 ⟨(some 5), .mv (C (0)), none⟩])
 (.seq (.block 0
 (.seq (.reg [⟨(some 8), .mv (T 1), none⟩,
 ⟨(some 9), .bin .geq (T 8) (C (29)), none⟩,
 ⟨(some 7), .mv (T 9), none⟩])
 (.cond (T 7)
 (.seq (.reg [⟨(some 4), .mv (C (0)), none⟩,
 ⟨(some 5), .mv (C (3)), none⟩])
 .ret)
 (.seq (.reg [⟨(some 11), .mv (T 1), none⟩,
 ⟨(some 12), .bin .eql (T 11) (C (28)), none⟩,
 ⟨(some 10), .mv (T 12), none⟩])
 (.cond (T 10)
 (.seq (.reg [⟨(some 4), .mv (C (258)), none⟩,
 ⟨(some 5), .mv (C (0)), none⟩])
 .ret)
 (.seq (.reg [⟨(some 14), .mv (T 1), none⟩,
 ⟨(some 15), .bin .lss (T 14) (C (8)), none⟩,
 ⟨(some 13), .mv (T 15), none⟩])
 (.cond (T 13)
 (.seq (.reg [⟨(some 16), .mv (T 1), none⟩,
 ⟨(some 17), .bin .add (C (3)) (T 16), none⟩,
 ⟨(some 4), .mv (T 17), none⟩,
 ⟨(some 5), .mv (C (0)), none⟩])
 .ret)
 .skip)))))))
 (.seq (.reg [⟨(some 18), .mv (T 1), none⟩,
 ⟨(some 19), .bin .quo (T 18) (C (4)), none⟩,
 ⟨(some 20), .bin .sub (T 19) (C (1)), none⟩,
 ⟨(some 6), .mv (T 20), none⟩])
 (.seq (.reg [⟨(some 21), .mv (T 0), none⟩,
 ⟨(some 22), .mv (T 1), none⟩,
 ⟨(some 23), .bin .rem (T 22) (C (4)), none⟩,
 ⟨(some 24), .bin .add (C (4)) (T 23), none⟩,
 ⟨(some 25), .mv (T 6), none⟩,
 ⟨(some 26), .bin .shl (T 24) (T 25), none⟩,
 ⟨(some 27), .bin .add (C (3)) (T 26), none⟩,
 ⟨(some 28), .mv (T 6), none⟩,
 ⟨(some 29), .call true n_inflate_unpacker_plus [(T 21), (T 27), (T 28)], none⟩,
 ⟨(some 30), .ext (T 29) 0, none⟩,
 ⟨(some 31), .ext (T 29) 1, none⟩,
 ⟨(some 4), .mv (T 30), none⟩,
 ⟨(some 5), .mv (T 31), none⟩])
 .ret))))
theorem e_inflate_unpacker_length : slimC Tryd.prog 32 (Tryd.f57.body.getD .skip) = s_inflate_unpacker_length := by kernel_rfl
theorem r_inflate_unpacker_length : slimRes Tryd.prog Tryd.f57 = some [.tmp 4, .tmp 5] := by kernel_rfl

/-- The slim code of (*drayage/inflate.unpacker).distance. -/
def s_inflate_unpacker_distance : SCode :=
 (.seq (.reg [⟨(some 4), .mv (C (0)), none⟩,
 ⟨(some 5), .mv (C (0)), none⟩])
 (.seq (.block 0
 (.seq (.reg [⟨(some 8), .mv (T 1), none⟩,
 ⟨(some 9), .bin .geq (T 8) (C (30)), none⟩,
 ⟨(some 7), .mv (T 9), none⟩])
 (.cond (T 7)
 (.seq (.reg [⟨(some 4), .mv (C (0)), none⟩,
 ⟨(some 5), .mv (C (3)), none⟩])
 .ret)
 (.seq (.reg [⟨(some 11), .mv (T 1), none⟩,
 ⟨(some 12), .bin .lss (T 11) (C (4)), none⟩,
 ⟨(some 10), .mv (T 12), none⟩])
 (.cond (T 10)
 (.seq (.reg [⟨(some 13), .mv (T 1), none⟩,
 ⟨(some 14), .bin .add (C (1)) (T 13), none⟩,
 ⟨(some 4), .mv (T 14), none⟩,
 ⟨(some 5), .mv (C (0)), none⟩])
 .ret)
 .skip)))))
 (.seq (.reg [⟨(some 15), .mv (T 1), none⟩,
 ⟨(some 16), .bin .quo (T 15) (C (2)), none⟩,
 ⟨(some 17), .bin .sub (T 16) (C (1)), none⟩,
 ⟨(some 6), .mv (T 17), none⟩])
 (.seq (.reg [⟨(some 18), .mv (T 0), none⟩,
 ⟨(some 19), .mv (T 1), none⟩,
 ⟨(some 20), .bin .rem (T 19) (C (2)), none⟩,
 ⟨(some 21), .bin .add (C (2)) (T 20), none⟩,
 ⟨(some 22), .mv (T 6), none⟩,
 ⟨(some 23), .bin .shl (T 21) (T 22), none⟩,
 ⟨(some 24), .bin .add (C (1)) (T 23), none⟩,
 ⟨(some 25), .mv (T 6), none⟩,
 ⟨(some 26), .call true n_inflate_unpacker_plus [(T 18), (T 24), (T 25)], none⟩,
 ⟨(some 27), .ext (T 26) 0, none⟩,
 ⟨(some 28), .ext (T 26) 1, none⟩,
 ⟨(some 4), .mv (T 27), none⟩,
 ⟨(some 5), .mv (T 28), none⟩])
 .ret))))
theorem e_inflate_unpacker_distance : slimC Tryd.prog 29 (Tryd.f58.body.getD .skip) = s_inflate_unpacker_distance := by kernel_rfl
theorem r_inflate_unpacker_distance : slimRes Tryd.prog Tryd.f58 = some [.tmp 4, .tmp 5] := by kernel_rfl

/-- The slim code of drayage/huff.Full. -/
def s_huff_Full : SCode :=
 (.seq (.reg [⟨(some 2), .mv (.const (.bool false)), none⟩])
 (.seq (.reg [⟨(some 3), .mv (T 0), none⟩,
 ⟨(some 4), .call true n_huff_Check [(T 3)], none⟩,
 ⟨(some 5), .bin .eql (T 4) (C (0)), none⟩,
 ⟨(some 6), .mv (T 5), none⟩,
 ⟨(some 7), .mv (T 0), (some (6, true))⟩,
 ⟨(some 8), .call true n_huff_taken [(T 7)], (some (6, true))⟩,
 ⟨(some 9), .bin .eql (T 8) (C (32768)), (some (6, true))⟩,
 ⟨(some 10), .pick (T 6) (T 9) (.const (.bool false)), none⟩,
 ⟨(some 2), .mv (T 10), none⟩])
 .ret))
theorem e_huff_Full : slimC Tryd.prog 11 (Tryd.f59.body.getD .skip) = s_huff_Full := by kernel_rfl
theorem r_huff_Full : slimRes Tryd.prog Tryd.f59 = some [.tmp 2] := by kernel_rfl

/-- The slim code of (*drayage/inflate.unpacker).plus. -/
def s_inflate_unpacker_plus : SCode :=
 (.seq (.reg [⟨(some 6), .mv (C (0)), none⟩,
 ⟨(some 7), .mv (C (0)), none⟩])
 (.seq (.reg [⟨(some 11), .mv (T 0), none⟩,
 ⟨(some 12), .nilc (T 11), none⟩,
 ⟨(some 13), .faddr 0 (T 12), none⟩,
 ⟨(some 14), .load none (T 13), none⟩,
 ⟨(some 15), .mv (T 2), none⟩,
 ⟨(some 16), .call true n_huff_Reader_Take [(T 14), (T 15)], none⟩,
 ⟨(some 10), .mv (T 16), none⟩,
 ⟨(some 17), .ext (T 10) 0, none⟩,
 ⟨(some 18), .ext (T 10) 1, none⟩,
 ⟨(some 8), .mv (T 17), none⟩,
 ⟨(some 9), .mv (T 18), none⟩])
 (.seq (.seq (.reg [⟨(some 19), .mv (T 9), none⟩,
 ⟨(some 20), .un .not (T 19), none⟩])
 (.cond (T 20)
 (.seq (.reg [⟨(some 6), .mv (C (0)), none⟩,
 ⟨(some 7), .mv (C (2)), none⟩])
 .ret)
 .skip))
 (.seq (.reg [⟨(some 21), .mv (T 1), none⟩,
 ⟨(some 22), .mv (T 8), none⟩,
 ⟨(some 23), .bin .add (T 21) (T 22), none⟩,
 ⟨(some 6), .mv (T 23), none⟩,
 ⟨(some 7), .mv (C (0)), none⟩])
 .ret))))
theorem e_inflate_unpacker_plus : slimC Tryd.prog 24 (Tryd.f60.body.getD .skip) = s_inflate_unpacker_plus := by kernel_rfl
theorem r_inflate_unpacker_plus : slimRes Tryd.prog Tryd.f60 = some [.tmp 6, .tmp 7] := by kernel_rfl

/-- The slim code of drayage/inflate.fewOrFull. -/
def s_inflate_fewOrFull : SCode :=
 (.seq (.reg [⟨(some 2), .mv (.const (.bool false)), none⟩])
 (.seq (.reg [⟨(some 3), .mv (C (0)), none⟩])
 (.seq (.seq (.reg [⟨(some 6), .mv (T 0), none⟩,
 ⟨(some 7), .len false (T 6), none⟩,
 ⟨(some 8), .mv (C (0)), none⟩])
 (.block 0
 (.loop
 (.seq (.reg [⟨(some 9), .bin .lss (T 8) (T 7), none⟩])
 (.seq (.cond (T 9)
 .skip
 (.exit 0))
 (.seq (.block 1
 (.seq (.reg [⟨(some 10), .iaddr none (T 6) (T 8), none⟩,
 ⟨(some 11), .load none (T 10), none⟩,
 ⟨(some 5), .mv (T 11), none⟩])
 (.reg [⟨(some 12), .mv (T 3), none⟩,
 ⟨(some 13), .mv (T 5), none⟩,
 ⟨(some 14), .bin .add (T 12) (T 13), none⟩,
 ⟨(some 3), .mv (T 14), none⟩])))
 (.reg [⟨(some 15), .bin .add (T 8) (C (1)), none⟩,
 ⟨(some 8), .mv (T 15), none⟩])))))))
 (.seq (.reg [⟨(some 16), .mv (T 3), none⟩,
 ⟨(some 17), .bin .leq (T 16) (C (1)), none⟩,
 ⟨(some 18), .mv (T 17), none⟩,
 ⟨(some 19), .mv (T 0), (some (18, false))⟩,
 ⟨(some 20), .call true n_huff_Full [(T 19)], (some (18, false))⟩,
 ⟨(some 21), .pick (T 18) (.const (.bool true)) (T 20), none⟩,
 ⟨(some 2), .mv (T 21), none⟩])
 .ret))))
theorem e_inflate_fewOrFull : slimC Tryd.prog 22 (Tryd.f61.body.getD .skip) = s_inflate_fewOrFull := by kernel_rfl
theorem r_inflate_fewOrFull : slimRes Tryd.prog Tryd.f61 = some [.tmp 2] := by kernel_rfl

/-- The slim code of drayage/drayageref03.Row. -/
def s_drayageref03_Row : SCode :=
 (.seq (.reg [⟨(some 4), .mv (.const (.slice none 0 0)), none⟩])
 (.seq (.reg [⟨(some 5), .mv (.const (.slice none 0 0)), none⟩])
 (.seq (.seq (.reg [⟨(some 7), .mv (T 1), none⟩,
 ⟨(some 8), .bin .sub (T 7) (C (1)), none⟩,
 ⟨(some 6), .mv (T 8), none⟩])
 (.block 0
 (.loop
 (.seq (.seq (.reg [⟨(some 9), .mv (T 6), none⟩,
 ⟨(some 10), .bin .geq (T 9) (C (0)), none⟩])
 (.cond (T 10)
 .skip
 (.exit 0)))
 (.seq (.block 1
 (.reg [⟨(some 13), .mv (T 5), none⟩,
 ⟨(some 14), .mv (T 0), none⟩,
 ⟨(some 15), .mv (T 6), none⟩,
 ⟨(some 16), .ci .u64 (T 15), none⟩,
 ⟨(some 17), .bin .shr (T 14) (T 16), none⟩,
 ⟨(some 18), .bin .and (T 17) (C (1)), none⟩,
 ⟨(some 19), .bslice none [(T 18)], none⟩,
 ⟨(some 20), .app none 8 (T 13) (T 19), none⟩,
 ⟨(some 5), .mv (T 20), none⟩]))
 (.reg [⟨(some 11), .mv (T 6), none⟩,
 ⟨(some 12), .bin .sub (T 11) (C (1)), none⟩,
 ⟨(some 6), .mv (T 12), none⟩]))))))
 (.seq (.reg [⟨(some 21), .mv (T 5), none⟩,
 ⟨(some 4), .mv (T 21), none⟩])
 .ret))))
theorem e_drayageref03_Row : slimC Tryd.prog 22 (Tryd.f62.body.getD .skip) = s_drayageref03_Row := by kernel_rfl
theorem r_drayageref03_Row : slimRes Tryd.prog Tryd.f62 = some [.tmp 4] := by kernel_rfl

/-- The slim code of drayage/drayageref03.head. -/
def s_drayageref03_head : SCode :=
 (.seq (.reg [⟨(some 4), .mv (.const (.bool false)), none⟩])
 (.seq (.seq (.reg [⟨(some 6), .mv (T 0), none⟩,
 ⟨(some 7), .len false (T 6), none⟩,
 ⟨(some 8), .mv (T 1), none⟩,
 ⟨(some 9), .len false (T 8), none⟩,
 ⟨(some 10), .bin .gtr (T 7) (T 9), none⟩])
 (.cond (T 10)
 (.seq (.reg [⟨(some 4), .mv (.const (.bool false)), none⟩])
 .ret)
 .skip))
 (.seq (.seq (.reg [⟨(some 5), .mv (C (0)), none⟩])
 (.block 0
 (.loop
 (.seq (.seq (.reg [⟨(some 11), .mv (T 5), none⟩,
 ⟨(some 12), .mv (T 0), none⟩,
 ⟨(some 13), .len false (T 12), none⟩,
 ⟨(some 14), .bin .lss (T 11) (T 13), none⟩])
 (.cond (T 14)
 .skip
 (.exit 0)))
 (.seq (.block 1
 (.seq (.reg [⟨(some 17), .mv (T 0), none⟩,
 ⟨(some 18), .mv (T 5), none⟩,
 ⟨(some 19), .iaddr none (T 17) (T 18), none⟩,
 ⟨(some 20), .load none (T 19), none⟩,
 ⟨(some 21), .mv (T 1), none⟩,
 ⟨(some 22), .mv (T 5), none⟩,
 ⟨(some 23), .iaddr none (T 21) (T 22), none⟩,
 ⟨(some 24), .load none (T 23), none⟩,
 ⟨(some 25), .bin .neq (T 20) (T 24), none⟩])
 (.cond (T 25)
 (.seq (.reg [⟨(some 4), .mv (.const (.bool false)), none⟩])
 .ret)
 .skip)))
 (.reg [⟨(some 15), .mv (T 5), none⟩,
 ⟨(some 16), .bin .add (T 15) (C (1)), none⟩,
 ⟨(some 5), .mv (T 16), none⟩]))))))
 (.seq (.reg [⟨(some 4), .mv (.const (.bool true)), none⟩])
 .ret))))
theorem e_drayageref03_head : slimC Tryd.prog 26 (Tryd.f63.body.getD .skip) = s_drayageref03_head := by kernel_rfl
theorem r_drayageref03_head : slimRes Tryd.prog Tryd.f63 = some [.tmp 4] := by kernel_rfl

/-- The slim code of math/bits.Mul64. -/
def s_bits_Mul64 : SCode :=
 (.seq (.reg [⟨(some 4), .mv (.const (.int .u64 (0))), none⟩,
 ⟨(some 5), .mv (.const (.int .u64 (0))), none⟩])
 (.seq (.reg [⟨(some 14), .mv (T 0), none⟩,
 ⟨(some 15), .bin .and (T 14) (.const (.int .u64 (4294967295))), none⟩,
 ⟨(some 6), .mv (T 15), none⟩])
 (.seq (.reg [⟨(some 16), .mv (T 0), none⟩,
 ⟨(some 17), .bin .shr (T 16) (.const (.int .u64 (32))), none⟩,
 ⟨(some 7), .mv (T 17), none⟩])
 (.seq (.reg [⟨(some 18), .mv (T 1), none⟩,
 ⟨(some 19), .bin .and (T 18) (.const (.int .u64 (4294967295))), none⟩,
 ⟨(some 8), .mv (T 19), none⟩])
 (.seq (.reg [⟨(some 20), .mv (T 1), none⟩,
 ⟨(some 21), .bin .shr (T 20) (.const (.int .u64 (32))), none⟩,
 ⟨(some 9), .mv (T 21), none⟩])
 (.seq (.reg [⟨(some 22), .mv (T 6), none⟩,
 ⟨(some 23), .mv (T 8), none⟩,
 ⟨(some 24), .bin .mul (T 22) (T 23), none⟩,
 ⟨(some 10), .mv (T 24), none⟩])
 (.seq (.reg [⟨(some 25), .mv (T 7), none⟩,
 ⟨(some 26), .mv (T 8), none⟩,
 ⟨(some 27), .bin .mul (T 25) (T 26), none⟩,
 ⟨(some 28), .mv (T 10), none⟩,
 ⟨(some 29), .bin .shr (T 28) (.const (.int .u64 (32))), none⟩,
 ⟨(some 30), .bin .add (T 27) (T 29), none⟩,
 ⟨(some 11), .mv (T 30), none⟩])
 (.seq (.reg [⟨(some 31), .mv (T 11), none⟩,
 ⟨(some 32), .bin .and (T 31) (.const (.int .u64 (4294967295))), none⟩,
 ⟨(some 12), .mv (T 32), none⟩])
 (.seq (.reg [⟨(some 33), .mv (T 11), none⟩,
 ⟨(some 34), .bin .shr (T 33) (.const (.int .u64 (32))), none⟩,
 ⟨(some 13), .mv (T 34), none⟩])
 (.seq (.reg [⟨(some 35), .mv (T 12), none⟩,
 ⟨(some 36), .mv (T 6), none⟩,
 ⟨(some 37), .mv (T 9), none⟩,
 ⟨(some 38), .bin .mul (T 36) (T 37), none⟩,
 ⟨(some 39), .bin .add (T 35) (T 38), none⟩,
 ⟨(some 12), .mv (T 39), none⟩])
 (.seq (.reg [⟨(some 40), .mv (T 7), none⟩,
 ⟨(some 41), .mv (T 9), none⟩,
 ⟨(some 42), .bin .mul (T 40) (T 41), none⟩,
 ⟨(some 43), .mv (T 13), none⟩,
 ⟨(some 44), .bin .add (T 42) (T 43), none⟩,
 ⟨(some 45), .mv (T 12), none⟩,
 ⟨(some 46), .bin .shr (T 45) (.const (.int .u64 (32))), none⟩,
 ⟨(some 47), .bin .add (T 44) (T 46), none⟩,
 ⟨(some 4), .mv (T 47), none⟩])
 (.seq (.reg [⟨(some 48), .mv (T 0), none⟩,
 ⟨(some 49), .mv (T 1), none⟩,
 ⟨(some 50), .bin .mul (T 48) (T 49), none⟩,
 ⟨(some 5), .mv (T 50), none⟩])
 .ret))))))))))))
theorem e_bits_Mul64 : slimC Tryd.prog 51 (Tryd.f65.body.getD .skip) = s_bits_Mul64 := by kernel_rfl
theorem r_bits_Mul64 : slimRes Tryd.prog Tryd.f65 = some [.tmp 4, .tmp 5] := by kernel_rfl

end Go.Proofs.YtokdmakljdhjiaaDoor.Aw
