/- Parts of the proof of HuffLengths. -/
import Derived.Test.YtbmppmdklappiaaQHuffLengthsAY
import Derived.Test.YtbmppmdklappiaaProg
import Derived.Test.YtbmppmdklappiaaQHuffLengthsAZ
namespace Go.Proofs.Ytbmppmdklappiaa.Aw
open Go
set_option maxRecDepth 100000
set_option linter.unusedSimpArgs false
abbrev n_bytes_Clone : Nat := 31
abbrev n_cmp_Compareint : Nat := 48
abbrev n_cmp_isNaNint : Nat := 53
abbrev n_drayagelaw03_HuffLengths : Nat := 7
abbrev n_drayagelaw03_awake : Nat := 8
abbrev n_drayageref03_Bad : Nat := 29
abbrev n_drayageref03_Check : Nat := 35
abbrev n_drayageref03_Full : Nat := 20
abbrev n_drayageref03_share : Nat := 37
abbrev n_huff_Check : Nat := 18
abbrev n_huff_Codes : Nat := 16
abbrev n_huff_Lengths : Nat := 28
abbrev n_huff_NewWriter : Nat := 24
abbrev n_huff_Writer_Bytes : Nat := 26
abbrev n_huff_Writer_Put : Nat := 30
abbrev n_huff_Writer_bit : Nat := 41
abbrev n_huff_byCount : Nat := 44
abbrev n_huff_cheapest : Nat := 42
abbrev n_huff_firstRows : Nat := 34
abbrev n_huff_pairs : Nat := 46
abbrev n_huff_taken : Nat := 36
abbrev n_slices_Concathuff_batchhuff_batch : Nat := 45
abbrev n_slices_Concatintint : Nat := 50
abbrev n_slices_Growhuff_batchhuff_batch : Nat := 49
abbrev n_slices_Growintint : Nat := 54
abbrev n_slices_SortStableFunchuff_batchhuff_batch : Nat := 43
abbrev n_slices_insertionSortCmpFunchuff_batch : Nat := 51
abbrev n_slices_rotateCmpFunchuff_batch : Nat := 55
abbrev n_slices_stableCmpFunchuff_batch : Nat := 47
abbrev n_slices_swapRangeCmpFunchuff_batch : Nat := 56
abbrev n_slices_symMergeCmpFunchuff_batch : Nat := 52
theorem mix : Try.prog.follows .mixedOrders = true := by kernel_rfl
def s_drayagelaw03_awake : SCode :=
 (.seq (.reg [⟨(some 0), .mv (.const (.bool false)), none⟩])
 (.seq (.reg [⟨(some 5), .call true n_huff_NewWriter [], none⟩,
 ⟨(some 1), .mv (T 5), none⟩])
 (.seq (.seq (.reg [⟨(some 6), .mv (T 1), none⟩,
 ⟨(some 7), .isnilp false (T 6), none⟩])
 (.cond (T 7)
 (.seq (.reg [⟨(some 0), .mv (.const (.bool false)), none⟩])
 .ret)
 .skip))
 (.seq (.reg [⟨(some 8), .mv (T 1), none⟩,
 ⟨(some 9), .call true n_huff_Writer_Put [(T 8), (C (1)), (C (1))], none⟩])
 (.seq (.reg [⟨(some 10), .mv (T 1), none⟩,
 ⟨(some 11), .call true n_huff_Writer_Put [(T 10), (C (2)), (C (2))], none⟩])
 (.seq (.reg [⟨(some 12), .mv (T 1), none⟩,
 ⟨(some 13), .call true n_huff_Writer_Put [(T 12), (C (0)), (C (1))], none⟩])
 (.seq (.reg [⟨(some 14), .mv (T 1), none⟩,
 ⟨(some 15), .call true n_huff_Writer_Put [(T 14), (C (9)), (C (4))], none⟩])
 (.seq (.reg [⟨(some 17), .bsl none [(C (2)), (C (1)), (C (3)), (C (3))], none⟩,
 ⟨(some 18), .call true n_huff_Codes [(T 17)], none⟩,
 ⟨(some 16), .mv (T 18), none⟩,
 ⟨(some 19), .ext (T 16) 0, none⟩,
 ⟨(some 20), .ext (T 16) 1, none⟩,
 ⟨(some 2), .mv (T 19), none⟩,
 ⟨(some 3), .mv (T 20), none⟩])
 (.seq (.reg [⟨(some 21), .mv (T 1), none⟩,
 ⟨(some 22), .call true n_huff_Writer_Bytes [(T 21)], none⟩,
 ⟨(some 4), .mv (T 22), none⟩])
 (.seq (.reg [⟨(some 23), .mv (T 3), none⟩,
 ⟨(some 24), .bin .eql (T 23) (C (0)), none⟩,
 ⟨(some 25), .mv (T 24), none⟩,
 ⟨(some 26), .mv (T 4), (some (25, true))⟩,
 ⟨(some 27), .len false (T 26), (some (25, true))⟩,
 ⟨(some 28), .bin .eql (T 27) (C (1)), (some (25, true))⟩,
 ⟨(some 29), .pick (T 25) (T 28) (.const (.bool false)), none⟩,
 ⟨(some 30), .mv (T 29), none⟩,
 ⟨(some 31), .mv (T 4), (some (30, true))⟩,
 ⟨(some 32), .iaddr none (T 31) (C (0)), (some (30, true))⟩,
 ⟨(some 33), .load none (T 32), (some (30, true))⟩,
 ⟨(some 34), .bin .eql (T 33) (.const (.int .u8 (149))), (some (30, true))⟩,
 ⟨(some 35), .pick (T 30) (T 34) (.const (.bool false)), none⟩,
 ⟨(some 36), .mv (T 35), none⟩,
 ⟨(some 37), .mv (T 2), (some (36, true))⟩,
 ⟨(some 38), .len false (T 37), (some (36, true))⟩,
 ⟨(some 39), .bin .eql (T 38) (C (4)), (some (36, true))⟩,
 ⟨(some 40), .pick (T 36) (T 39) (.const (.bool false)), none⟩,
 ⟨(some 41), .mv (T 40), none⟩,
 ⟨(some 42), .mv (T 2), (some (41, true))⟩,
 ⟨(some 43), .iaddr none (T 42) (C (0)), (some (41, true))⟩,
 ⟨(some 44), .load none (T 43), (some (41, true))⟩,
 ⟨(some 45), .bin .eql (T 44) (C (2)), (some (41, true))⟩,
 ⟨(some 46), .pick (T 41) (T 45) (.const (.bool false)), none⟩,
 ⟨(some 47), .mv (T 46), none⟩,
 ⟨(some 48), .mv (T 2), (some (47, true))⟩,
 ⟨(some 49), .iaddr none (T 48) (C (2)), (some (47, true))⟩,
 ⟨(some 50), .load none (T 49), (some (47, true))⟩,
 ⟨(some 51), .bin .eql (T 50) (C (6)), (some (47, true))⟩,
 ⟨(some 52), .pick (T 47) (T 51) (.const (.bool false)), none⟩,
 ⟨(some 53), .mv (T 52), none⟩,
 ⟨(some 54), .mv (T 2), (some (53, true))⟩,
 ⟨(some 55), .iaddr none (T 54) (C (3)), (some (53, true))⟩,
 ⟨(some 56), .load none (T 55), (some (53, true))⟩,
 ⟨(some 57), .bin .eql (T 56) (C (7)), (some (53, true))⟩,
 ⟨(some 58), .pick (T 53) (T 57) (.const (.bool false)), none⟩,
 ⟨(some 0), .mv (T 58), none⟩])
 .ret))))))))))
theorem e_drayagelaw03_awake : slimC Try.prog 59 (Try.f8.body.getD .skip) = s_drayagelaw03_awake := by kernel_rfl
theorem r_drayagelaw03_awake : slimRes Try.prog Try.f8 = some [.tmp 0] := by kernel_rfl
def s_huff_Codes : SCode :=
 (.seq (.reg [⟨(some 2), .mv (.const (.slice none 0 0)), none⟩,
 ⟨(some 3), .mv (C (0)), none⟩])
 (.seq (.seq (.reg [⟨(some 9), .mv (T 0), none⟩,
 ⟨(some 10), .call true n_huff_Check [(T 9)], none⟩,
 ⟨(some 4), .mv (T 10), none⟩])
 (.seq (.reg [⟨(some 11), .mv (T 4), none⟩,
 ⟨(some 12), .bin .neq (T 11) (C (0)), none⟩])
 (.cond (T 12)
 (.seq (.reg [⟨(some 13), .mv (T 4), none⟩,
 ⟨(some 2), .mv (.const (.slice none 0 0)), none⟩,
 ⟨(some 3), .mv (T 13), none⟩])
 .ret)
 .skip)))
 (.seq (.reg [⟨(some 14), .mv (T 0), none⟩,
 ⟨(some 15), .call true n_huff_firstRows [(T 14)], none⟩,
 ⟨(some 5), .alloc (List.replicate 16 (.int .i64 (0))), none⟩,
 ⟨none, .store (some 16) (T 5) (T 15), none⟩])
 (.seq (.reg [⟨(some 16), .mv (T 0), none⟩,
 ⟨(some 17), .len false (T 16), none⟩,
 ⟨(some 18), .mks none 8 [(.int .i64 (0))] (T 17) (T 17), none⟩,
 ⟨(some 6), .mv (T 18), none⟩])
 (.seq (.seq (.reg [⟨(some 19), .mv (T 0), none⟩,
 ⟨(some 20), .len false (T 19), none⟩,
 ⟨(some 21), .mv (C (0)), none⟩])
 (.block 0
 (.loop
 (.seq (.reg [⟨(some 22), .bin .lss (T 21) (T 20), none⟩])
 (.seq (.cond (T 22)
 .skip
 (.exit 0))
 (.seq (.block 1
 (.seq (.reg [⟨(some 23), .mv (T 21), none⟩,
 ⟨(some 24), .iaddr none (T 19) (T 21), none⟩,
 ⟨(some 25), .load none (T 24), none⟩,
 ⟨(some 7), .mv (T 23), none⟩,
 ⟨(some 8), .mv (T 25), none⟩])
 (.seq (.reg [⟨(some 26), .mv (T 8), none⟩,
 ⟨(some 27), .bin .gtr (T 26) (C (0)), none⟩])
 (.cond (T 27)
 (.seq (.reg [⟨(some 28), .mv (T 6), none⟩,
 ⟨(some 29), .mv (T 7), none⟩,
 ⟨(some 30), .mv (T 8), none⟩,
 ⟨(some 31), .iaddrA 16 none (T 5) (T 30), none⟩,
 ⟨(some 32), .load none (T 31), none⟩,
 ⟨(some 33), .iaddr none (T 28) (T 29), none⟩,
 ⟨none, .store none (T 33) (T 32), none⟩])
 (.reg [⟨(some 34), .mv (T 8), none⟩,
 ⟨(some 35), .iaddrA 16 none (T 5) (T 34), none⟩,
 ⟨(some 36), .load none (T 35), none⟩,
 ⟨(some 37), .bin .add (T 36) (C (1)), none⟩,
 ⟨(some 38), .iaddrA 16 none (T 5) (T 34), none⟩,
 ⟨none, .store none (T 38) (T 37), none⟩]))
 .skip))))
 (.reg [⟨(some 39), .bin .add (T 21) (C (1)), none⟩,
 ⟨(some 21), .mv (T 39), none⟩])))))))
 (.seq (.reg [⟨(some 40), .mv (T 6), none⟩,
 ⟨(some 2), .mv (T 40), none⟩,
 ⟨(some 3), .mv (C (0)), none⟩])
 .ret))))))
theorem e_huff_Codes : slimC Try.prog 41 (Try.f16.body.getD .skip) = s_huff_Codes := by kernel_rfl
theorem r_huff_Codes : slimRes Try.prog Try.f16 = some [.tmp 2, .tmp 3] := by kernel_rfl
def s_huff_Check : SCode :=
 (.seq (.reg [⟨(some 2), .mv (C (0)), none⟩])
 (.seq (.seq (.reg [⟨(some 5), .mv (T 0), none⟩,
 ⟨(some 6), .len false (T 5), none⟩,
 ⟨(some 7), .bin .gtr (T 6) (C (320)), none⟩])
 (.cond (T 7)
 (.seq (.reg [⟨(some 2), .mv (C (4)), none⟩])
 .ret)
 .skip))
 (.seq (.seq (.reg [⟨(some 8), .mv (T 0), none⟩,
 ⟨(some 9), .len false (T 8), none⟩,
 ⟨(some 10), .mv (C (0)), none⟩])
 (.block 0
 (.loop
 (.seq (.reg [⟨(some 11), .bin .lss (T 10) (T 9), none⟩])
 (.seq (.cond (T 11)
 .skip
 (.exit 0))
 (.seq (.block 1
 (.seq (.reg [⟨(some 12), .iaddr none (T 8) (T 10), none⟩,
 ⟨(some 13), .load none (T 12), none⟩,
 ⟨(some 4), .mv (T 13), none⟩])
 (.seq (.reg [⟨(some 14), .mv (T 4), none⟩,
 ⟨(some 15), .bin .lss (T 14) (C (0)), none⟩,
 ⟨(some 16), .mv (T 15), none⟩,
 ⟨(some 17), .mv (T 4), (some (16, false))⟩,
 ⟨(some 18), .bin .gtr (T 17) (C (15)), (some (16, false))⟩,
 ⟨(some 19), .pick (T 16) (.const (.bool true)) (T 18), none⟩])
 (.cond (T 19)
 (.seq (.reg [⟨(some 2), .mv (C (1)), none⟩])
 .ret)
 .skip))))
 (.reg [⟨(some 20), .bin .add (T 10) (C (1)), none⟩,
 ⟨(some 10), .mv (T 20), none⟩])))))))
 (.seq (.seq (.reg [⟨(some 21), .mv (T 0), none⟩,
 ⟨(some 22), .call true n_huff_taken [(T 21)], none⟩,
 ⟨(some 23), .bin .gtr (T 22) (C (32768)), none⟩])
 (.cond (T 23)
 (.seq (.reg [⟨(some 2), .mv (C (3)), none⟩])
 .ret)
 .skip))
 (.seq (.reg [⟨(some 2), .mv (C (0)), none⟩])
 .ret)))))
theorem e_huff_Check : slimC Try.prog 24 (Try.f18.body.getD .skip) = s_huff_Check := by kernel_rfl
theorem r_huff_Check : slimRes Try.prog Try.f18 = some [.tmp 2] := by kernel_rfl
def s_drayageref03_Full : SCode :=
 (.seq (.reg [⟨(some 2), .mv (.const (.bool false)), none⟩])
 (.seq (.reg [⟨(some 3), .mv (T 0), none⟩,
 ⟨(some 4), .call true n_drayageref03_Check [(T 3)], none⟩,
 ⟨(some 5), .bin .eql (T 4) (C (0)), none⟩,
 ⟨(some 6), .mv (T 5), none⟩,
 ⟨(some 7), .mv (T 0), (some (6, true))⟩,
 ⟨(some 8), .call true n_drayageref03_share [(T 7)], (some (6, true))⟩,
 ⟨(some 9), .bin .eql (T 8) (C (32768)), (some (6, true))⟩,
 ⟨(some 10), .pick (T 6) (T 9) (.const (.bool false)), none⟩,
 ⟨(some 2), .mv (T 10), none⟩])
 .ret))
theorem e_drayageref03_Full : slimC Try.prog 11 (Try.f20.body.getD .skip) = s_drayageref03_Full := by kernel_rfl
theorem r_drayageref03_Full : slimRes Try.prog Try.f20 = some [.tmp 2] := by kernel_rfl
def s_huff_NewWriter : SCode :=
 (.seq (.reg [⟨(some 0), .mv (.const (.pointer none)), none⟩])
 (.seq (.reg [⟨(some 1), .build [(.slice none 0 0), (.int .i64 (0))] [], none⟩,
 ⟨(some 2), .box (T 1), none⟩,
 ⟨(some 0), .mv (T 2), none⟩])
 .ret))
theorem e_huff_NewWriter : slimC Try.prog 3 (Try.f24.body.getD .skip) = s_huff_NewWriter := by kernel_rfl
theorem r_huff_NewWriter : slimRes Try.prog Try.f24 = some [.tmp 0] := by kernel_rfl
def s_huff_Writer_Bytes : SCode :=
 (.seq (.reg [⟨(some 2), .mv (.const (.slice none 0 0)), none⟩])
 (.seq (.reg [⟨(some 3), .mv (T 0), none⟩,
 ⟨(some 4), .nilc (T 3), none⟩,
 ⟨(some 5), .faddr 0 (T 4), none⟩,
 ⟨(some 6), .load none (T 5), none⟩,
 ⟨(some 7), .call true n_bytes_Clone [(T 6)], none⟩,
 ⟨(some 2), .mv (T 7), none⟩])
 .ret))
theorem e_huff_Writer_Bytes : slimC Try.prog 8 (Try.f26.body.getD .skip) = s_huff_Writer_Bytes := by kernel_rfl
theorem r_huff_Writer_Bytes : slimRes Try.prog Try.f26 = some [.tmp 2] := by kernel_rfl
def s_huff_Writer_Put : SCode :=
 (.seq (.seq (.reg [⟨(some 7), .mv (T 2), none⟩,
 ⟨(some 8), .bin .lss (T 7) (C (0)), none⟩,
 ⟨(some 9), .mv (T 8), none⟩,
 ⟨(some 10), .mv (T 2), (some (9, false))⟩,
 ⟨(some 11), .bin .gtr (T 10) (C (24)), (some (9, false))⟩,
 ⟨(some 12), .pick (T 9) (.const (.bool true)) (T 11), none⟩])
 (.cond (T 12)
 .ret
 .skip))
 (.seq (.reg [⟨(some 13), .mv (T 2), none⟩,
 ⟨(some 14), .mv (C (0)), none⟩])
 (.block 0
 (.loop
 (.seq (.reg [⟨(some 15), .bin .lss (T 14) (T 13), none⟩])
 (.seq (.cond (T 15)
 .skip
 (.exit 0))
 (.seq (.block 1
 (.seq (.reg [⟨(some 16), .mv (T 14), none⟩,
 ⟨(some 6), .mv (T 16), none⟩])
 (.reg [⟨(some 17), .mv (T 0), none⟩,
 ⟨(some 18), .mv (T 1), none⟩,
 ⟨(some 19), .mv (T 6), none⟩,
 ⟨(some 20), .bin .shr (T 18) (T 19), none⟩,
 ⟨(some 21), .bin .and (T 20) (C (1)), none⟩,
 ⟨(some 22), .call true n_huff_Writer_bit [(T 17), (T 21)], none⟩])))
 (.reg [⟨(some 23), .bin .add (T 14) (C (1)), none⟩,
 ⟨(some 14), .mv (T 23), none⟩]))))))))
theorem e_huff_Writer_Put : slimC Try.prog 24 (Try.f30.body.getD .skip) = s_huff_Writer_Put := by kernel_rfl
theorem r_huff_Writer_Put : slimRes Try.prog Try.f30 = some [] := by kernel_rfl
def s_bytes_Clone : SCode :=
 (.seq (.reg [⟨(some 2), .mv (.const (.slice none 0 0)), none⟩])
 (.seq (.seq (.reg [⟨(some 3), .mv (T 0), none⟩,
 ⟨(some 4), .isnil false (T 3), none⟩])
 (.cond (T 4)
 (.seq (.reg [⟨(some 2), .mv (.const (.slice none 0 0)), none⟩])
 .ret)
 .skip))
 (.seq (.reg [⟨(some 5), .emp none, none⟩,
 ⟨(some 6), .mv (T 0), none⟩,
 ⟨(some 7), .app none 1 (T 5) (T 6), none⟩,
 ⟨(some 2), .mv (T 7), none⟩])
 .ret)))
theorem e_bytes_Clone : slimC Try.prog 8 (Try.f31.body.getD .skip) = s_bytes_Clone := by kernel_rfl
theorem r_bytes_Clone : slimRes Try.prog Try.f31 = some [.tmp 2] := by kernel_rfl
def s_huff_firstRows : SCode :=
 (.seq (.reg [⟨(some 2), .alloc (List.replicate 16 (.int .i64 (0))), none⟩])
 (.seq (.reg [⟨(some 3), .alloc (List.replicate 16 (.int .i64 (0))), none⟩])
 (.seq (.seq (.reg [⟨(some 8), .mv (T 0), none⟩,
 ⟨(some 9), .len false (T 8), none⟩,
 ⟨(some 10), .mv (C (0)), none⟩])
 (.block 0
 (.loop
 (.seq (.reg [⟨(some 11), .bin .lss (T 10) (T 9), none⟩])
 (.seq (.cond (T 11)
 .skip
 (.exit 0))
 (.seq (.block 1
 (.seq (.reg [⟨(some 12), .iaddr none (T 8) (T 10), none⟩,
 ⟨(some 13), .load none (T 12), none⟩,
 ⟨(some 5), .mv (T 13), none⟩])
 (.reg [⟨(some 14), .mv (T 5), none⟩,
 ⟨(some 15), .iaddrA 16 none (T 3) (T 14), none⟩,
 ⟨(some 16), .load none (T 15), none⟩,
 ⟨(some 17), .bin .add (T 16) (C (1)), none⟩,
 ⟨(some 18), .iaddrA 16 none (T 3) (T 14), none⟩,
 ⟨none, .store none (T 18) (T 17), none⟩])))
 (.reg [⟨(some 19), .bin .add (T 10) (C (1)), none⟩,
 ⟨(some 10), .mv (T 19), none⟩])))))))
 (.seq (.reg [⟨(some 20), .iaddrA 16 none (T 3) (C (0)), none⟩,
 ⟨none, .store none (T 20) (C (0)), none⟩])
 (.seq (.reg [⟨(some 6), .alloc (List.replicate 16 (.int .i64 (0))), none⟩])
 (.seq (.seq (.reg [⟨(some 21), .mv (C (0)), none⟩])
 (.block 2
 (.loop
 (.seq (.reg [⟨(some 22), .bin .lss (T 21) (C (15)), none⟩])
 (.seq (.cond (T 22)
 .skip
 (.exit 2))
 (.seq (.block 3
 (.seq (.reg [⟨(some 23), .mv (T 21), none⟩,
 ⟨(some 7), .mv (T 23), none⟩])
 (.reg [⟨(some 24), .mv (T 7), none⟩,
 ⟨(some 25), .bin .add (T 24) (C (1)), none⟩,
 ⟨(some 26), .mv (T 7), none⟩,
 ⟨(some 27), .iaddrA 16 none (T 6) (T 26), none⟩,
 ⟨(some 28), .load none (T 27), none⟩,
 ⟨(some 29), .mv (T 7), none⟩,
 ⟨(some 30), .iaddrA 16 none (T 3) (T 29), none⟩,
 ⟨(some 31), .load none (T 30), none⟩,
 ⟨(some 32), .bin .add (T 28) (T 31), none⟩,
 ⟨(some 33), .bin .shl (T 32) (.const (.int .u64 (1))), none⟩,
 ⟨(some 34), .iaddrA 16 none (T 6) (T 25), none⟩,
 ⟨none, .store none (T 34) (T 33), none⟩])))
 (.reg [⟨(some 35), .bin .add (T 21) (C (1)), none⟩,
 ⟨(some 21), .mv (T 35), none⟩])))))))
 (.seq (.reg [⟨(some 36), .load (some 16) (T 6), none⟩,
 ⟨none, .store (some 16) (T 2) (T 36), none⟩])
 .ret)))))))
theorem e_huff_firstRows : slimC Try.prog 37 (Try.f34.body.getD .skip) = s_huff_firstRows := by kernel_rfl
theorem r_huff_firstRows : slimRes Try.prog Try.f34 = some [.cell 2 (some 16)] := by kernel_rfl
def s_drayageref03_Check : SCode :=
 (.seq (.reg [⟨(some 2), .mv (C (0)), none⟩])
 (.seq (.seq (.reg [⟨(some 4), .mv (T 0), none⟩,
 ⟨(some 5), .len false (T 4), none⟩,
 ⟨(some 6), .bin .gtr (T 5) (C (320)), none⟩])
 (.cond (T 6)
 (.seq (.reg [⟨(some 2), .mv (C (4)), none⟩])
 .ret)
 .skip))
 (.seq (.seq (.reg [⟨(some 3), .mv (C (0)), none⟩])
 (.block 0
 (.loop
 (.seq (.seq (.reg [⟨(some 7), .mv (T 3), none⟩,
 ⟨(some 8), .mv (T 0), none⟩,
 ⟨(some 9), .len false (T 8), none⟩,
 ⟨(some 10), .bin .lss (T 7) (T 9), none⟩])
 (.cond (T 10)
 .skip
 (.exit 0)))
 (.seq (.block 1
 (.seq (.reg [⟨(some 13), .mv (T 0), none⟩,
 ⟨(some 14), .mv (T 3), none⟩,
 ⟨(some 15), .iaddr none (T 13) (T 14), none⟩,
 ⟨(some 16), .load none (T 15), none⟩,
 ⟨(some 17), .bin .lss (T 16) (C (0)), none⟩,
 ⟨(some 18), .mv (T 17), none⟩,
 ⟨(some 19), .mv (T 0), (some (18, false))⟩,
 ⟨(some 20), .mv (T 3), (some (18, false))⟩,
 ⟨(some 21), .iaddr none (T 19) (T 20), (some (18, false))⟩,
 ⟨(some 22), .load none (T 21), (some (18, false))⟩,
 ⟨(some 23), .bin .gtr (T 22) (C (15)), (some (18, false))⟩,
 ⟨(some 24), .pick (T 18) (.const (.bool true)) (T 23), none⟩])
 (.cond (T 24)
 (.seq (.reg [⟨(some 2), .mv (C (1)), none⟩])
 .ret)
 .skip)))
 (.reg [⟨(some 11), .mv (T 3), none⟩,
 ⟨(some 12), .bin .add (T 11) (C (1)), none⟩,
 ⟨(some 3), .mv (T 12), none⟩]))))))
 (.seq (.seq (.reg [⟨(some 25), .mv (T 0), none⟩,
 ⟨(some 26), .call true n_drayageref03_share [(T 25)], none⟩,
 ⟨(some 27), .bin .gtr (T 26) (C (32768)), none⟩])
 (.cond (T 27)
 (.seq (.reg [⟨(some 2), .mv (C (3)), none⟩])
 .ret)
 .skip))
 (.seq (.reg [⟨(some 2), .mv (C (0)), none⟩])
 .ret)))))
theorem e_drayageref03_Check : slimC Try.prog 28 (Try.f35.body.getD .skip) = s_drayageref03_Check := by kernel_rfl
theorem r_drayageref03_Check : slimRes Try.prog Try.f35 = some [.tmp 2] := by kernel_rfl
def s_huff_taken : SCode :=
 (.seq (.reg [⟨(some 2), .mv (C (0)), none⟩])
 (.seq (.reg [⟨(some 3), .mv (C (0)), none⟩])
 (.seq (.seq (.reg [⟨(some 6), .mv (T 0), none⟩,
 ⟨(some 7), .len false (T 6), none⟩,
 ⟨(some 8), .mv (C (0)), none⟩])
 (.block 0
 (.loop
 (.seq (.reg [⟨(some 9), .bin .lss (T 8) (T 7), none⟩])
 (.seq (.cond (T 9)
 .skip
 (.exit 0))
 (.seq (.block 1
 (.seq (.reg [⟨(some 10), .iaddr none (T 6) (T 8), none⟩,
 ⟨(some 11), .load none (T 10), none⟩,
 ⟨(some 5), .mv (T 11), none⟩])
 (.seq (.reg [⟨(some 12), .mv (T 5), none⟩,
 ⟨(some 13), .bin .gtr (T 12) (C (0)), none⟩])
 (.cond (T 13)
 (.reg [⟨(some 14), .mv (T 3), none⟩,
 ⟨(some 15), .mv (T 5), none⟩,
 ⟨(some 16), .bin .shr (C (32768)) (T 15), none⟩,
 ⟨(some 17), .bin .add (T 14) (T 16), none⟩,
 ⟨(some 3), .mv (T 17), none⟩])
 .skip))))
 (.reg [⟨(some 18), .bin .add (T 8) (C (1)), none⟩,
 ⟨(some 8), .mv (T 18), none⟩])))))))
 (.seq (.reg [⟨(some 19), .mv (T 3), none⟩,
 ⟨(some 2), .mv (T 19), none⟩])
 .ret))))
theorem e_huff_taken : slimC Try.prog 20 (Try.f36.body.getD .skip) = s_huff_taken := by kernel_rfl
theorem r_huff_taken : slimRes Try.prog Try.f36 = some [.tmp 2] := by kernel_rfl
def s_drayageref03_share : SCode :=
 (.seq (.reg [⟨(some 2), .mv (C (0)), none⟩])
 (.seq (.reg [⟨(some 3), .mv (C (0)), none⟩])
 (.seq (.seq (.reg [⟨(some 4), .mv (C (0)), none⟩])
 (.block 0
 (.loop
 (.seq (.seq (.reg [⟨(some 7), .mv (T 4), none⟩,
 ⟨(some 8), .mv (T 0), none⟩,
 ⟨(some 9), .len false (T 8), none⟩,
 ⟨(some 10), .bin .lss (T 7) (T 9), none⟩])
 (.cond (T 10)
 .skip
 (.exit 0)))
 (.seq (.block 1
 (.seq (.reg [⟨(some 13), .mv (T 0), none⟩,
 ⟨(some 14), .mv (T 4), none⟩,
 ⟨(some 15), .iaddr none (T 13) (T 14), none⟩,
 ⟨(some 16), .load none (T 15), none⟩,
 ⟨(some 17), .bin .gtr (T 16) (C (0)), none⟩])
 (.cond (T 17)
 (.seq (.reg [⟨(some 5), .mv (C (32768)), none⟩])
 (.seq (.seq (.reg [⟨(some 6), .mv (C (0)), none⟩])
 (.block 2
 (.loop
 (.seq (.seq (.reg [⟨(some 18), .mv (T 6), none⟩,
 ⟨(some 19), .mv (T 0), none⟩,
 ⟨(some 20), .mv (T 4), none⟩,
 ⟨(some 21), .iaddr none (T 19) (T 20), none⟩,
 ⟨(some 22), .load none (T 21), none⟩,
 ⟨(some 23), .bin .lss (T 18) (T 22), none⟩])
 (.cond (T 23)
 .skip
 (.exit 2)))
 (.seq (.block 3
 (.reg [⟨(some 26), .mv (T 5), none⟩,
 ⟨(some 27), .bin .quo (T 26) (C (2)), none⟩,
 ⟨(some 5), .mv (T 27), none⟩]))
 (.reg [⟨(some 24), .mv (T 6), none⟩,
 ⟨(some 25), .bin .add (T 24) (C (1)), none⟩,
 ⟨(some 6), .mv (T 25), none⟩]))))))
 (.reg [⟨(some 28), .mv (T 3), none⟩,
 ⟨(some 29), .mv (T 5), none⟩,
 ⟨(some 30), .bin .add (T 28) (T 29), none⟩,
 ⟨(some 3), .mv (T 30), none⟩])))
 .skip)))
 (.reg [⟨(some 11), .mv (T 4), none⟩,
 ⟨(some 12), .bin .add (T 11) (C (1)), none⟩,
 ⟨(some 4), .mv (T 12), none⟩]))))))
 (.seq (.reg [⟨(some 31), .mv (T 3), none⟩,
 ⟨(some 2), .mv (T 31), none⟩])
 .ret))))
theorem e_drayageref03_share : slimC Try.prog 32 (Try.f37.body.getD .skip) = s_drayageref03_share := by kernel_rfl
theorem r_drayageref03_share : slimRes Try.prog Try.f37 = some [.tmp 2] := by kernel_rfl
def s_huff_Writer_bit : SCode :=
 (.seq (.seq (.reg [⟨(some 4), .mv (T 0), none⟩,
 ⟨(some 5), .nilc (T 4), none⟩,
 ⟨(some 6), .faddr 1 (T 5), none⟩,
 ⟨(some 7), .load none (T 6), none⟩,
 ⟨(some 8), .bin .rem (T 7) (C (8)), none⟩,
 ⟨(some 9), .bin .eql (T 8) (C (0)), none⟩])
 (.cond (T 9)
 (.reg [⟨(some 10), .mv (T 0), none⟩,
 ⟨(some 11), .mv (T 0), none⟩,
 ⟨(some 12), .nilc (T 11), none⟩,
 ⟨(some 13), .faddr 0 (T 12), none⟩,
 ⟨(some 14), .load none (T 13), none⟩,
 ⟨(some 15), .bslice none [(.const (.int .u8 (0)))], none⟩,
 ⟨(some 16), .app none 1 (T 14) (T 15), none⟩,
 ⟨(some 17), .nilc (T 10), none⟩,
 ⟨(some 18), .faddr 0 (T 17), none⟩,
 ⟨none, .store none (T 18) (T 16), none⟩])
 .skip))
 (.seq (.reg [⟨(some 19), .mv (T 0), none⟩,
 ⟨(some 20), .nilc (T 19), none⟩,
 ⟨(some 21), .faddr 0 (T 20), none⟩,
 ⟨(some 22), .load none (T 21), none⟩,
 ⟨(some 23), .mv (T 0), none⟩,
 ⟨(some 24), .nilc (T 23), none⟩,
 ⟨(some 25), .faddr 1 (T 24), none⟩,
 ⟨(some 26), .load none (T 25), none⟩,
 ⟨(some 27), .bin .quo (T 26) (C (8)), none⟩,
 ⟨(some 28), .iaddr none (T 22) (T 27), none⟩,
 ⟨(some 29), .load none (T 28), none⟩,
 ⟨(some 30), .mv (T 1), none⟩,
 ⟨(some 31), .mv (T 0), none⟩,
 ⟨(some 32), .nilc (T 31), none⟩,
 ⟨(some 33), .faddr 1 (T 32), none⟩,
 ⟨(some 34), .load none (T 33), none⟩,
 ⟨(some 35), .bin .rem (T 34) (C (8)), none⟩,
 ⟨(some 36), .bin .shl (T 30) (T 35), none⟩,
 ⟨(some 37), .ci .u8 (T 36), none⟩,
 ⟨(some 38), .bin .or (T 29) (T 37), none⟩,
 ⟨(some 39), .iaddr none (T 22) (T 27), none⟩,
 ⟨none, .store none (T 39) (T 38), none⟩])
 (.reg [⟨(some 40), .mv (T 0), none⟩,
 ⟨(some 41), .nilc (T 40), none⟩,
 ⟨(some 42), .faddr 1 (T 41), none⟩,
 ⟨(some 43), .load none (T 42), none⟩,
 ⟨(some 44), .bin .add (T 43) (C (1)), none⟩,
 ⟨(some 45), .nilc (T 40), none⟩,
 ⟨(some 46), .faddr 1 (T 45), none⟩,
 ⟨none, .store none (T 46) (T 44), none⟩])))
theorem e_huff_Writer_bit : slimC Try.prog 47 (Try.f41.body.getD .skip) = s_huff_Writer_bit := by kernel_rfl
theorem r_huff_Writer_bit : slimRes Try.prog Try.f41 = some [] := by kernel_rfl
def s_drayagelaw03_HuffLengths : SCode :=
 (.seq (.reg [⟨(some 4), .mv (.const (.bool false)), none⟩])
 (.seq (.seq (.reg [⟨(some 12), .call true n_drayagelaw03_awake [], none⟩,
 ⟨(some 13), .un .not (T 12), none⟩])
 (.cond (T 13)
 (.seq (.reg [⟨(some 4), .mv (.const (.bool false)), none⟩])
 .ret)
 .skip))
 (.seq (.seq (.reg [⟨(some 14), .mv (T 0), none⟩,
 ⟨(some 15), .len false (T 14), none⟩,
 ⟨(some 16), .bin .gtr (T 15) (C (400)), none⟩])
 (.cond (T 16)
 (.seq (.reg [⟨(some 4), .mv (.const (.bool true)), none⟩])
 .ret)
 .skip))
 (.seq (.reg [⟨(some 18), .mv (T 0), none⟩,
 ⟨(some 19), .mv (T 1), none⟩,
 ⟨(some 20), .call true n_huff_Lengths [(T 18), (T 19)], none⟩,
 ⟨(some 17), .mv (T 20), none⟩,
 ⟨(some 21), .ext (T 17) 0, none⟩,
 ⟨(some 22), .ext (T 17) 1, none⟩,
 ⟨(some 5), .mv (T 21), none⟩,
 ⟨(some 6), .mv (T 22), none⟩])
 (.seq (.seq (.reg [⟨(some 23), .mv (T 0), none⟩,
 ⟨(some 24), .mv (T 1), none⟩,
 ⟨(some 25), .call true n_drayageref03_Bad [(T 23), (T 24)], none⟩,
 ⟨(some 7), .mv (T 25), none⟩])
 (.seq (.reg [⟨(some 26), .mv (T 7), none⟩,
 ⟨(some 27), .bin .neq (T 26) (C (0)), none⟩,
 ⟨(some 28), .mv (T 27), none⟩,
 ⟨(some 29), .mv (T 6), (some (28, false))⟩,
 ⟨(some 30), .mv (T 7), (some (28, false))⟩,
 ⟨(some 31), .bin .neq (T 29) (T 30), (some (28, false))⟩,
 ⟨(some 32), .pick (T 28) (.const (.bool true)) (T 31), none⟩])
 (.cond (T 32)
 (.seq (.reg [⟨(some 33), .mv (T 6), none⟩,
 ⟨(some 34), .mv (T 7), none⟩,
 ⟨(some 35), .bin .eql (T 33) (T 34), none⟩,
 ⟨(some 36), .mv (T 35), none⟩,
 ⟨(some 37), .mv (T 5), (some (36, true))⟩,
 ⟨(some 38), .len false (T 37), (some (36, true))⟩,
 ⟨(some 39), .bin .eql (T 38) (C (0)), (some (36, true))⟩,
 ⟨(some 40), .pick (T 36) (T 39) (.const (.bool false)), none⟩,
 ⟨(some 4), .mv (T 40), none⟩])
 .ret)
 .skip)))
 (.seq (.seq (.reg [⟨(some 41), .mv (T 5), none⟩,
 ⟨(some 42), .len false (T 41), none⟩,
 ⟨(some 43), .mv (T 0), none⟩,
 ⟨(some 44), .len false (T 43), none⟩,
 ⟨(some 45), .bin .neq (T 42) (T 44), none⟩])
 (.cond (T 45)
 (.seq (.reg [⟨(some 4), .mv (.const (.bool false)), none⟩])
 .ret)
 .skip))
 (.seq (.reg [⟨(some 8), .mv (C (0)), none⟩])
 (.seq (.seq (.reg [⟨(some 9), .mv (C (0)), none⟩])
 (.block 0
 (.loop
 (.seq (.seq (.reg [⟨(some 46), .mv (T 9), none⟩,
 ⟨(some 47), .mv (T 5), none⟩,
 ⟨(some 48), .len false (T 47), none⟩,
 ⟨(some 49), .bin .lss (T 46) (T 48), none⟩])
 (.cond (T 49)
 .skip
 (.exit 0)))
 (.seq (.block 1
 (.seq (.seq (.reg [⟨(some 52), .mv (T 5), none⟩,
 ⟨(some 53), .mv (T 9), none⟩,
 ⟨(some 54), .iaddr none (T 52) (T 53), none⟩,
 ⟨(some 55), .load none (T 54), none⟩,
 ⟨(some 56), .bin .lss (T 55) (C (0)), none⟩,
 ⟨(some 57), .mv (T 56), none⟩,
 ⟨(some 58), .mv (T 5), (some (57, false))⟩,
 ⟨(some 59), .mv (T 9), (some (57, false))⟩,
 ⟨(some 60), .iaddr none (T 58) (T 59), (some (57, false))⟩,
 ⟨(some 61), .load none (T 60), (some (57, false))⟩,
 ⟨(some 62), .mv (T 1), (some (57, false))⟩,
 ⟨(some 63), .bin .gtr (T 61) (T 62), (some (57, false))⟩,
 ⟨(some 64), .pick (T 57) (.const (.bool true)) (T 63), none⟩,
 ⟨(some 65), .mv (T 64), none⟩,
 ⟨(some 66), .mv (T 5), (some (65, false))⟩,
 ⟨(some 67), .mv (T 9), (some (65, false))⟩,
 ⟨(some 68), .iaddr none (T 66) (T 67), (some (65, false))⟩,
 ⟨(some 69), .load none (T 68), (some (65, false))⟩,
 ⟨(some 70), .bin .gtr (T 69) (C (0)), (some (65, false))⟩,
 ⟨(some 71), .mv (T 0), (some (65, false))⟩,
 ⟨(some 72), .mv (T 9), (some (65, false))⟩,
 ⟨(some 73), .iaddr none (T 71) (T 72), (some (65, false))⟩,
 ⟨(some 74), .load none (T 73), (some (65, false))⟩,
 ⟨(some 75), .bin .gtr (T 74) (C (0)), (some (65, false))⟩,
 ⟨(some 76), .beq true (T 70) (T 75), (some (65, false))⟩,
 ⟨(some 77), .pick (T 65) (.const (.bool true)) (T 76), none⟩])
 (.cond (T 77)
 (.seq (.reg [⟨(some 4), .mv (.const (.bool false)), none⟩])
 .ret)
 .skip))
 (.seq (.seq (.reg [⟨(some 78), .mv (T 5), none⟩,
 ⟨(some 79), .mv (T 9), none⟩,
 ⟨(some 80), .iaddr none (T 78) (T 79), none⟩,
 ⟨(some 81), .load none (T 80), none⟩,
 ⟨(some 82), .bin .gtr (T 81) (C (0)), none⟩])
 (.cond (T 82)
 (.reg [⟨(some 83), .mv (T 8), none⟩,
 ⟨(some 84), .bin .add (T 83) (C (1)), none⟩,
 ⟨(some 8), .mv (T 84), none⟩])
 .skip))
 (.seq (.reg [⟨(some 10), .mv (C (0)), none⟩])
 (.block 2
 (.loop
 (.seq (.seq (.reg [⟨(some 85), .mv (T 10), none⟩,
 ⟨(some 86), .mv (T 9), none⟩,
 ⟨(some 87), .bin .lss (T 85) (T 86), none⟩])
 (.cond (T 87)
 .skip
 (.exit 2)))
 (.seq (.block 3
 (.seq (.reg [⟨(some 90), .mv (T 5), none⟩,
 ⟨(some 91), .mv (T 9), none⟩,
 ⟨(some 92), .iaddr none (T 90) (T 91), none⟩,
 ⟨(some 93), .load none (T 92), none⟩,
 ⟨(some 94), .bin .gtr (T 93) (C (0)), none⟩,
 ⟨(some 95), .mv (T 94), none⟩,
 ⟨(some 96), .mv (T 5), (some (95, true))⟩,
 ⟨(some 97), .mv (T 10), (some (95, true))⟩,
 ⟨(some 98), .iaddr none (T 96) (T 97), (some (95, true))⟩,
 ⟨(some 99), .load none (T 98), (some (95, true))⟩,
 ⟨(some 100), .bin .gtr (T 99) (C (0)), (some (95, true))⟩,
 ⟨(some 101), .pick (T 95) (T 100) (.const (.bool false)), none⟩,
 ⟨(some 102), .mv (T 101), none⟩,
 ⟨(some 103), .mv (T 0), (some (102, true))⟩,
 ⟨(some 104), .mv (T 9), (some (102, true))⟩,
 ⟨(some 105), .iaddr none (T 103) (T 104), (some (102, true))⟩,
 ⟨(some 106), .load none (T 105), (some (102, true))⟩,
 ⟨(some 107), .mv (T 0), (some (102, true))⟩,
 ⟨(some 108), .mv (T 10), (some (102, true))⟩,
 ⟨(some 109), .iaddr none (T 107) (T 108), (some (102, true))⟩,
 ⟨(some 110), .load none (T 109), (some (102, true))⟩,
 ⟨(some 111), .bin .lss (T 106) (T 110), (some (102, true))⟩,
 ⟨(some 112), .mv (T 111), (some (102, true))⟩,
 ⟨(some 113), .mv (T 5), (some (112, true))⟩,
 ⟨(some 114), .mv (T 9), (some (112, true))⟩,
 ⟨(some 115), .iaddr none (T 113) (T 114), (some (112, true))⟩,
 ⟨(some 116), .load none (T 115), (some (112, true))⟩,
 ⟨(some 117), .mv (T 5), (some (112, true))⟩,
 ⟨(some 118), .mv (T 10), (some (112, true))⟩,
 ⟨(some 119), .iaddr none (T 117) (T 118), (some (112, true))⟩,
 ⟨(some 120), .load none (T 119), (some (112, true))⟩,
 ⟨(some 121), .bin .lss (T 116) (T 120), (some (112, true))⟩,
 ⟨(some 122), .pick (T 112) (T 121) (.const (.bool false)), (some (102, true))⟩,
 ⟨(some 123), .mv (T 122), (some (102, true))⟩,
 ⟨(some 124), .mv (T 0), (some (123, false))⟩,
 ⟨(some 125), .mv (T 9), (some (123, false))⟩,
 ⟨(some 126), .iaddr none (T 124) (T 125), (some (123, false))⟩,
 ⟨(some 127), .load none (T 126), (some (123, false))⟩,
 ⟨(some 128), .mv (T 0), (some (123, false))⟩,
 ⟨(some 129), .mv (T 10), (some (123, false))⟩,
 ⟨(some 130), .iaddr none (T 128) (T 129), (some (123, false))⟩,
 ⟨(some 131), .load none (T 130), (some (123, false))⟩,
 ⟨(some 132), .bin .gtr (T 127) (T 131), (some (123, false))⟩,
 ⟨(some 133), .mv (T 132), (some (123, false))⟩,
 ⟨(some 134), .mv (T 5), (some (133, true))⟩,
 ⟨(some 135), .mv (T 9), (some (133, true))⟩,
 ⟨(some 136), .iaddr none (T 134) (T 135), (some (133, true))⟩,
 ⟨(some 137), .load none (T 136), (some (133, true))⟩,
 ⟨(some 138), .mv (T 5), (some (133, true))⟩,
 ⟨(some 139), .mv (T 10), (some (133, true))⟩,
 ⟨(some 140), .iaddr none (T 138) (T 139), (some (133, true))⟩,
 ⟨(some 141), .load none (T 140), (some (133, true))⟩,
 ⟨(some 142), .bin .gtr (T 137) (T 141), (some (133, true))⟩,
 ⟨(some 143), .pick (T 133) (T 142) (.const (.bool false)), (some (123, false))⟩,
 ⟨(some 144), .pick (T 123) (.const (.bool true)) (T 143), (some (102, true))⟩,
 ⟨(some 145), .pick (T 102) (T 144) (.const (.bool false)), none⟩])
 (.cond (T 145)
 (.seq (.reg [⟨(some 4), .mv (.const (.bool false)), none⟩])
 .ret)
 .skip)))
 (.reg [⟨(some 88), .mv (T 10), none⟩,
 ⟨(some 89), .bin .add (T 88) (C (1)), none⟩,
 ⟨(some 10), .mv (T 89), none⟩])))))))))
 (.reg [⟨(some 50), .mv (T 9), none⟩,
 ⟨(some 51), .bin .add (T 50) (C (1)), none⟩,
 ⟨(some 9), .mv (T 51), none⟩]))))))
 (.seq (.seq (.reg [⟨(some 146), .mv (T 8), none⟩,
 ⟨(some 147), .bin .lss (T 146) (C (2)), none⟩])
 (.cond (T 147)
 (.seq (.seq (.reg [⟨(some 11), .mv (C (0)), none⟩])
 (.block 4
 (.loop
 (.seq (.seq (.reg [⟨(some 148), .mv (T 11), none⟩,
 ⟨(some 149), .mv (T 5), none⟩,
 ⟨(some 150), .len false (T 149), none⟩,
 ⟨(some 151), .bin .lss (T 148) (T 150), none⟩])
 (.cond (T 151)
 .skip
 (.exit 4)))
 (.seq (.block 5
 (.seq (.reg [⟨(some 154), .mv (T 5), none⟩,
 ⟨(some 155), .mv (T 11), none⟩,
 ⟨(some 156), .iaddr none (T 154) (T 155), none⟩,
 ⟨(some 157), .load none (T 156), none⟩,
 ⟨(some 158), .bin .gtr (T 157) (C (1)), none⟩])
 (.cond (T 158)
 (.seq (.reg [⟨(some 4), .mv (.const (.bool false)), none⟩])
 .ret)
 .skip)))
 (.reg [⟨(some 152), .mv (T 11), none⟩,
 ⟨(some 153), .bin .add (T 152) (C (1)), none⟩,
 ⟨(some 11), .mv (T 153), none⟩]))))))
 (.seq (.reg [⟨(some 4), .mv (.const (.bool true)), none⟩])
 .ret))
 .skip))
 (.seq (.reg [⟨(some 159), .mv (T 5), none⟩,
 ⟨(some 160), .call true n_drayageref03_Full [(T 159)], none⟩,
 ⟨(some 4), .mv (T 160), none⟩])
 .ret))))))))))
theorem e_drayagelaw03_HuffLengths : slimC Try.prog 161 (Try.f7.body.getD .skip) = s_drayagelaw03_HuffLengths := by kernel_rfl
theorem r_drayagelaw03_HuffLengths : slimRes Try.prog Try.f7 = some [.tmp 4] := by kernel_rfl
def s_huff_Lengths : SCode :=
 (.seq (.reg [⟨(some 4), .mv (.const (.slice none 0 0)), none⟩,
 ⟨(some 5), .mv (C (0)), none⟩])
 (.seq (.seq (.reg [⟨(some 14), .mv (T 1), none⟩,
 ⟨(some 15), .bin .lss (T 14) (C (1)), none⟩,
 ⟨(some 16), .mv (T 15), none⟩,
 ⟨(some 17), .mv (T 1), (some (16, false))⟩,
 ⟨(some 18), .bin .gtr (T 17) (C (15)), (some (16, false))⟩,
 ⟨(some 19), .pick (T 16) (.const (.bool true)) (T 18), none⟩])
 (.cond (T 19)
 (.seq (.reg [⟨(some 4), .mv (.const (.slice none 0 0)), none⟩,
 ⟨(some 5), .mv (C (1)), none⟩])
 .ret)
 .skip))
 (.seq (.seq (.reg [⟨(some 20), .mv (T 0), none⟩,
 ⟨(some 21), .len false (T 20), none⟩,
 ⟨(some 22), .bin .gtr (T 21) (C (320)), none⟩])
 (.cond (T 22)
 (.seq (.reg [⟨(some 4), .mv (.const (.slice none 0 0)), none⟩,
 ⟨(some 5), .mv (C (4)), none⟩])
 .ret)
 .skip))
 (.seq (.reg [⟨(some 6), .mv (.const (.slice none 0 0)), none⟩])
 (.seq (.seq (.reg [⟨(some 23), .mv (T 0), none⟩,
 ⟨(some 24), .len false (T 23), none⟩,
 ⟨(some 25), .mv (C (0)), none⟩])
 (.block 0
 (.loop
 (.seq (.reg [⟨(some 26), .bin .lss (T 25) (T 24), none⟩])
 (.seq (.cond (T 26)
 .skip
 (.exit 0))
 (.seq (.block 1
 (.seq (.reg [⟨(some 27), .mv (T 25), none⟩,
 ⟨(some 28), .iaddr none (T 23) (T 25), none⟩,
 ⟨(some 29), .load none (T 28), none⟩,
 ⟨(some 7), .mv (T 27), none⟩,
 ⟨(some 8), .mv (T 29), none⟩])
 (.seq (.seq (.reg [⟨(some 30), .mv (T 8), none⟩,
 ⟨(some 31), .bin .lss (T 30) (C (0)), none⟩,
 ⟨(some 32), .mv (T 31), none⟩,
 ⟨(some 33), .mv (T 8), (some (32, false))⟩,
 ⟨(some 34), .bin .gtr (T 33) (C (4294967296)), (some (32, false))⟩,
 ⟨(some 35), .pick (T 32) (.const (.bool true)) (T 34), none⟩])
 (.cond (T 35)
 (.seq (.reg [⟨(some 4), .mv (.const (.slice none 0 0)), none⟩,
 ⟨(some 5), .mv (C (1)), none⟩])
 .ret)
 .skip))
 (.seq (.reg [⟨(some 36), .mv (T 8), none⟩,
 ⟨(some 37), .bin .gtr (T 36) (C (0)), none⟩])
 (.cond (T 37)
 (.reg [⟨(some 38), .mv (T 6), none⟩,
 ⟨(some 39), .mv (T 8), none⟩,
 ⟨(some 40), .mv (T 7), none⟩,
 ⟨(some 41), .bslice none [(T 40)], none⟩,
 ⟨(some 42), .build [(.int .i64 (0)), (.slice none 0 0)] [(0, 1, (T 39)), (1, 1, (T 41))], none⟩,
 ⟨(some 43), .bslice (some 2) [(T 42)], none⟩,
 ⟨(some 44), .app (some 2) 32 (T 38) (T 43), none⟩,
 ⟨(some 6), .mv (T 44), none⟩])
 .skip)))))
 (.reg [⟨(some 45), .bin .add (T 25) (C (1)), none⟩,
 ⟨(some 25), .mv (T 45), none⟩])))))))
 (.seq (.seq (.reg [⟨(some 46), .mv (T 6), none⟩,
 ⟨(some 47), .len false (T 46), none⟩,
 ⟨(some 48), .mv (T 1), none⟩,
 ⟨(some 49), .bin .shl (C (1)) (T 48), none⟩,
 ⟨(some 50), .bin .gtr (T 47) (T 49), none⟩])
 (.cond (T 50)
 (.seq (.reg [⟨(some 4), .mv (.const (.slice none 0 0)), none⟩,
 ⟨(some 5), .mv (C (4)), none⟩])
 .ret)
 .skip))
 (.seq (.reg [⟨(some 51), .mv (T 0), none⟩,
 ⟨(some 52), .len false (T 51), none⟩,
 ⟨(some 53), .mks none 8 [(.int .i64 (0))] (T 52) (T 52), none⟩,
 ⟨(some 9), .mv (T 53), none⟩])
 (.seq (.seq (.reg [⟨(some 54), .mv (T 6), none⟩,
 ⟨(some 55), .mv (T 1), none⟩,
 ⟨(some 56), .call true n_huff_cheapest [(T 54), (T 55)], none⟩,
 ⟨(some 57), .len false (T 56), none⟩,
 ⟨(some 58), .mv (C (0)), none⟩])
 (.block 2
 (.loop
 (.seq (.reg [⟨(some 59), .bin .lss (T 58) (T 57), none⟩])
 (.seq (.cond (T 59)
 .skip
 (.exit 2))
 (.seq (.block 3
 (.seq (.reg [⟨(some 60), .iaddr (some 2) (T 56) (T 58), none⟩,
 ⟨(some 61), .load (some 2) (T 60), none⟩,
 ⟨(some 11), .alloc [(.int .i64 (0)), (.slice none 0 0)], none⟩,
 ⟨none, .store (some 2) (T 11) (T 61), none⟩])
 (.seq (.reg [⟨(some 62), .faddr 1 (T 11), none⟩,
 ⟨(some 63), .load none (T 62), none⟩,
 ⟨(some 64), .len false (T 63), none⟩,
 ⟨(some 65), .mv (C (0)), none⟩])
 (.block 4
 (.loop
 (.seq (.reg [⟨(some 66), .bin .lss (T 65) (T 64), none⟩])
 (.seq (.cond (T 66)
 .skip
 (.exit 4))
 (.seq (.block 5
 (.seq (.reg [⟨(some 67), .iaddr none (T 63) (T 65), none⟩,
 ⟨(some 68), .load none (T 67), none⟩,
 ⟨(some 13), .mv (T 68), none⟩])
 (.reg [⟨(some 69), .mv (T 9), none⟩,
 ⟨(some 70), .mv (T 13), none⟩,
 ⟨(some 71), .iaddr none (T 69) (T 70), none⟩,
 ⟨(some 72), .load none (T 71), none⟩,
 ⟨(some 73), .bin .add (T 72) (C (1)), none⟩,
 ⟨(some 74), .iaddr none (T 69) (T 70), none⟩,
 ⟨none, .store none (T 74) (T 73), none⟩])))
 (.reg [⟨(some 75), .bin .add (T 65) (C (1)), none⟩,
 ⟨(some 65), .mv (T 75), none⟩])))))))))
 (.reg [⟨(some 76), .bin .add (T 58) (C (1)), none⟩,
 ⟨(some 58), .mv (T 76), none⟩])))))))
 (.seq (.reg [⟨(some 77), .mv (T 9), none⟩,
 ⟨(some 4), .mv (T 77), none⟩,
 ⟨(some 5), .mv (C (0)), none⟩])
 .ret)))))))))
theorem e_huff_Lengths : slimC Try.prog 78 (Try.f28.body.getD .skip) = s_huff_Lengths := by kernel_rfl
theorem r_huff_Lengths : slimRes Try.prog Try.f28 = some [.tmp 4, .tmp 5] := by kernel_rfl
def s_drayageref03_Bad : SCode :=
 (.seq (.reg [⟨(some 4), .mv (C (0)), none⟩])
 (.seq (.seq (.reg [⟨(some 7), .mv (T 1), none⟩,
 ⟨(some 8), .bin .lss (T 7) (C (1)), none⟩,
 ⟨(some 9), .mv (T 8), none⟩,
 ⟨(some 10), .mv (T 1), (some (9, false))⟩,
 ⟨(some 11), .bin .gtr (T 10) (C (15)), (some (9, false))⟩,
 ⟨(some 12), .pick (T 9) (.const (.bool true)) (T 11), none⟩])
 (.cond (T 12)
 (.seq (.reg [⟨(some 4), .mv (C (1)), none⟩])
 .ret)
 .skip))
 (.seq (.seq (.reg [⟨(some 13), .mv (T 0), none⟩,
 ⟨(some 14), .len false (T 13), none⟩,
 ⟨(some 15), .bin .gtr (T 14) (C (320)), none⟩])
 (.cond (T 15)
 (.seq (.reg [⟨(some 4), .mv (C (4)), none⟩])
 .ret)
 .skip))
 (.seq (.reg [⟨(some 5), .mv (C (0)), none⟩])
 (.seq (.seq (.reg [⟨(some 6), .mv (C (0)), none⟩])
 (.block 0
 (.loop
 (.seq (.seq (.reg [⟨(some 16), .mv (T 6), none⟩,
 ⟨(some 17), .mv (T 0), none⟩,
 ⟨(some 18), .len false (T 17), none⟩,
 ⟨(some 19), .bin .lss (T 16) (T 18), none⟩])
 (.cond (T 19)
 .skip
 (.exit 0)))
 (.seq (.block 1
 (.seq (.seq (.reg [⟨(some 22), .mv (T 0), none⟩,
 ⟨(some 23), .mv (T 6), none⟩,
 ⟨(some 24), .iaddr none (T 22) (T 23), none⟩,
 ⟨(some 25), .load none (T 24), none⟩,
 ⟨(some 26), .bin .lss (T 25) (C (0)), none⟩,
 ⟨(some 27), .mv (T 26), none⟩,
 ⟨(some 28), .mv (T 0), (some (27, false))⟩,
 ⟨(some 29), .mv (T 6), (some (27, false))⟩,
 ⟨(some 30), .iaddr none (T 28) (T 29), (some (27, false))⟩,
 ⟨(some 31), .load none (T 30), (some (27, false))⟩,
 ⟨(some 32), .bin .gtr (T 31) (C (4294967296)), (some (27, false))⟩,
 ⟨(some 33), .pick (T 27) (.const (.bool true)) (T 32), none⟩])
 (.cond (T 33)
 (.seq (.reg [⟨(some 4), .mv (C (1)), none⟩])
 .ret)
 .skip))
 (.seq (.reg [⟨(some 34), .mv (T 0), none⟩,
 ⟨(some 35), .mv (T 6), none⟩,
 ⟨(some 36), .iaddr none (T 34) (T 35), none⟩,
 ⟨(some 37), .load none (T 36), none⟩,
 ⟨(some 38), .bin .gtr (T 37) (C (0)), none⟩])
 (.cond (T 38)
 (.reg [⟨(some 39), .mv (T 5), none⟩,
 ⟨(some 40), .bin .add (T 39) (C (1)), none⟩,
 ⟨(some 5), .mv (T 40), none⟩])
 .skip))))
 (.reg [⟨(some 20), .mv (T 6), none⟩,
 ⟨(some 21), .bin .add (T 20) (C (1)), none⟩,
 ⟨(some 6), .mv (T 21), none⟩]))))))
 (.seq (.seq (.reg [⟨(some 41), .mv (T 5), none⟩,
 ⟨(some 42), .mv (T 1), none⟩,
 ⟨(some 43), .ci .u64 (T 42), none⟩,
 ⟨(some 44), .bin .shl (C (1)) (T 43), none⟩,
 ⟨(some 45), .bin .gtr (T 41) (T 44), none⟩])
 (.cond (T 45)
 (.seq (.reg [⟨(some 4), .mv (C (4)), none⟩])
 .ret)
 .skip))
 (.seq (.reg [⟨(some 4), .mv (C (0)), none⟩])
 .ret)))))))
theorem e_drayageref03_Bad : slimC Try.prog 46 (Try.f29.body.getD .skip) = s_drayageref03_Bad := by kernel_rfl
theorem r_drayageref03_Bad : slimRes Try.prog Try.f29 = some [.tmp 4] := by kernel_rfl
def s_huff_cheapest : SCode :=
 (.seq (.reg [⟨(some 4), .mv (.const (.slice none 0 0)), none⟩])
 (.seq (.seq (.reg [⟨(some 6), .mv (T 0), none⟩,
 ⟨(some 7), .len false (T 6), none⟩,
 ⟨(some 8), .bin .lss (T 7) (C (2)), none⟩])
 (.cond (T 8)
 (.seq (.reg [⟨(some 9), .mv (T 0), none⟩,
 ⟨(some 4), .mv (T 9), none⟩])
 .ret)
 .skip))
 (.seq (.reg [⟨(some 10), .mv (T 0), none⟩,
 ⟨(some 11), .call true n_slices_SortStableFunchuff_batchhuff_batch [(T 10), (.func n_huff_byCount)], none⟩])
 (.seq (.reg [⟨(some 12), .mv (T 0), none⟩,
 ⟨(some 5), .mv (T 12), none⟩])
 (.seq (.seq (.reg [⟨(some 13), .mv (T 1), none⟩,
 ⟨(some 14), .bin .sub (T 13) (C (1)), none⟩,
 ⟨(some 15), .mv (C (0)), none⟩])
 (.block 0
 (.loop
 (.seq (.reg [⟨(some 16), .bin .lss (T 15) (T 14), none⟩])
 (.seq (.cond (T 16)
 .skip
 (.exit 0))
 (.seq (.block 1
 (.seq (.reg [⟨(some 17), .mv (T 0), none⟩,
 ⟨(some 18), .mv (T 5), none⟩,
 ⟨(some 19), .call true n_huff_pairs [(T 18)], none⟩,
 ⟨(some 20), .bslice none [(T 17), (T 19)], none⟩,
 ⟨(some 21), .call true n_slices_Concathuff_batchhuff_batch [(T 20)], none⟩,
 ⟨(some 5), .mv (T 21), none⟩])
 (.reg [⟨(some 22), .mv (T 5), none⟩,
 ⟨(some 23), .call true n_slices_SortStableFunchuff_batchhuff_batch [(T 22), (.func n_huff_byCount)], none⟩])))
 (.reg [⟨(some 24), .bin .add (T 15) (C (1)), none⟩,
 ⟨(some 15), .mv (T 24), none⟩])))))))
 (.seq (.reg [⟨(some 25), .mv (T 5), none⟩,
 ⟨(some 26), .mv (T 0), none⟩,
 ⟨(some 27), .len false (T 26), none⟩,
 ⟨(some 28), .bin .mul (C (2)) (T 27), none⟩,
 ⟨(some 29), .bin .sub (T 28) (C (2)), none⟩,
 ⟨(some 30), .sl (some 2) (T 25) none (some (T 29)), none⟩,
 ⟨(some 4), .mv (T 30), none⟩])
 .ret))))))
theorem e_huff_cheapest : slimC Try.prog 31 (Try.f42.body.getD .skip) = s_huff_cheapest := by kernel_rfl
theorem r_huff_cheapest : slimRes Try.prog Try.f42 = some [.tmp 4] := by kernel_rfl
def s_slices_SortStableFunchuff_batchhuff_batch : SCode :=
 (.reg [⟨(some 4), .mv (T 0), none⟩,
 ⟨(some 5), .mv (T 0), none⟩,
 ⟨(some 6), .len false (T 5), none⟩,
 ⟨(some 7), .mv (T 1), none⟩,
 ⟨(some 8), .call true n_slices_stableCmpFunchuff_batch [(T 4), (T 6), (T 7)], none⟩])
theorem e_slices_SortStableFunchuff_batchhuff_batch : slimC Try.prog 9 (Try.f43.body.getD .skip) = s_slices_SortStableFunchuff_batchhuff_batch := by kernel_rfl
theorem r_slices_SortStableFunchuff_batchhuff_batch : slimRes Try.prog Try.f43 = some [] := by kernel_rfl
def s_huff_byCount : SCode :=
 (.seq (.reg [⟨(some 2), .box (T 0), none⟩,
 ⟨(some 3), .box (T 1), none⟩,
 ⟨(some 4), .mv (C (0)), none⟩])
 (.seq (.reg [⟨(some 5), .faddr 0 (T 2), none⟩,
 ⟨(some 6), .load none (T 5), none⟩,
 ⟨(some 7), .faddr 0 (T 3), none⟩,
 ⟨(some 8), .load none (T 7), none⟩,
 ⟨(some 9), .call true n_cmp_Compareint [(T 6), (T 8)], none⟩,
 ⟨(some 4), .mv (T 9), none⟩])
 .ret))
theorem e_huff_byCount : slimC Try.prog 10 (Try.f44.body.getD .skip) = s_huff_byCount := by kernel_rfl
theorem r_huff_byCount : slimRes Try.prog Try.f44 = some [.tmp 4] := by kernel_rfl
def s_slices_Concathuff_batchhuff_batch : SCode :=
 (.seq (.reg [⟨(some 2), .mv (.const (.slice none 0 0)), none⟩])
 (.seq (.reg [⟨(some 3), .mv (C (0)), none⟩])
 (.seq (.seq (.reg [⟨(some 9), .mv (T 0), none⟩,
 ⟨(some 10), .len false (T 9), none⟩,
 ⟨(some 11), .mv (C (0)), none⟩])
 (.block 0
 (.loop
 (.seq (.reg [⟨(some 12), .bin .lss (T 11) (T 10), none⟩])
 (.seq (.cond (T 12)
 .skip
 (.exit 0))
 (.seq (.block 1
 (.seq (.reg [⟨(some 13), .iaddr none (T 9) (T 11), none⟩,
 ⟨(some 14), .load none (T 13), none⟩,
 ⟨(some 5), .mv (T 14), none⟩])
 (.seq (.reg [⟨(some 15), .mv (T 3), none⟩,
 ⟨(some 16), .mv (T 5), none⟩,
 ⟨(some 17), .len false (T 16), none⟩,
 ⟨(some 18), .bin .add (T 15) (T 17), none⟩,
 ⟨(some 3), .mv (T 18), none⟩])
 (.seq (.reg [⟨(some 19), .mv (T 3), none⟩,
 ⟨(some 20), .bin .lss (T 19) (C (0)), none⟩])
 (.cond (T 20)
 (.reg [⟨(some 21), .no, none⟩,
 ⟨none, .no, none⟩])
 .skip)))))
 (.reg [⟨(some 22), .bin .add (T 11) (C (1)), none⟩,
 ⟨(some 11), .mv (T 22), none⟩])))))))
 (.seq (.reg [⟨(some 23), .mv (T 3), none⟩,
 ⟨(some 24), .call true n_slices_Growhuff_batchhuff_batch [(.const (.slice none 0 0)), (T 23)], none⟩,
 ⟨(some 6), .mv (T 24), none⟩])
 (.seq (.seq (.reg [⟨(some 25), .mv (T 0), none⟩,
 ⟨(some 26), .len false (T 25), none⟩,
 ⟨(some 27), .mv (C (0)), none⟩])
 (.block 2
 (.loop
 (.seq (.reg [⟨(some 28), .bin .lss (T 27) (T 26), none⟩])
 (.seq (.cond (T 28)
 .skip
 (.exit 2))
 (.seq (.block 3
 (.seq (.reg [⟨(some 29), .iaddr none (T 25) (T 27), none⟩,
 ⟨(some 30), .load none (T 29), none⟩,
 ⟨(some 8), .mv (T 30), none⟩])
 (.reg [⟨(some 31), .mv (T 6), none⟩,
 ⟨(some 32), .mv (T 8), none⟩,
 ⟨(some 33), .app (some 2) 32 (T 31) (T 32), none⟩,
 ⟨(some 6), .mv (T 33), none⟩])))
 (.reg [⟨(some 34), .bin .add (T 27) (C (1)), none⟩,
 ⟨(some 27), .mv (T 34), none⟩])))))))
 (.seq (.reg [⟨(some 35), .mv (T 6), none⟩,
 ⟨(some 2), .mv (T 35), none⟩])
 .ret))))))
theorem e_slices_Concathuff_batchhuff_batch : slimC Try.prog 36 (Try.f45.body.getD .skip) = s_slices_Concathuff_batchhuff_batch := by kernel_rfl
theorem r_slices_Concathuff_batchhuff_batch : slimRes Try.prog Try.f45 = some [.tmp 2] := by kernel_rfl
def s_huff_pairs : SCode :=
 (.seq (.reg [⟨(some 2), .mv (.const (.slice none 0 0)), none⟩])
 (.seq (.reg [⟨(some 3), .mv (.const (.slice none 0 0)), none⟩])
 (.seq (.seq (.reg [⟨(some 4), .mv (C (1)), none⟩])
 (.block 0
 (.loop
 (.seq (.seq (.reg [⟨(some 7), .mv (T 4), none⟩,
 ⟨(some 8), .mv (T 0), none⟩,
 ⟨(some 9), .len false (T 8), none⟩,
 ⟨(some 10), .bin .lss (T 7) (T 9), none⟩])
 (.cond (T 10)
 .skip
 (.exit 0)))
 (.seq (.block 1
 (.seq (.reg [⟨(some 13), .mv (T 0), none⟩,
 ⟨(some 14), .mv (T 4), none⟩,
 ⟨(some 15), .bin .sub (T 14) (C (1)), none⟩,
 ⟨(some 16), .iaddr (some 2) (T 13) (T 15), none⟩,
 ⟨(some 17), .load (some 2) (T 16), none⟩,
 ⟨(some 18), .mv (T 0), none⟩,
 ⟨(some 19), .mv (T 4), none⟩,
 ⟨(some 20), .iaddr (some 2) (T 18) (T 19), none⟩,
 ⟨(some 21), .load (some 2) (T 20), none⟩,
 ⟨(some 5), .alloc [(.int .i64 (0)), (.slice none 0 0)], none⟩,
 ⟨none, .store (some 2) (T 5) (T 17), none⟩,
 ⟨(some 6), .alloc [(.int .i64 (0)), (.slice none 0 0)], none⟩,
 ⟨none, .store (some 2) (T 6) (T 21), none⟩])
 (.reg [⟨(some 22), .mv (T 3), none⟩,
 ⟨(some 23), .faddr 0 (T 5), none⟩,
 ⟨(some 24), .load none (T 23), none⟩,
 ⟨(some 25), .faddr 0 (T 6), none⟩,
 ⟨(some 26), .load none (T 25), none⟩,
 ⟨(some 27), .bin .add (T 24) (T 26), none⟩,
 ⟨(some 28), .faddr 1 (T 5), none⟩,
 ⟨(some 29), .load none (T 28), none⟩,
 ⟨(some 30), .faddr 1 (T 6), none⟩,
 ⟨(some 31), .load none (T 30), none⟩,
 ⟨(some 32), .bslice none [(T 29), (T 31)], none⟩,
 ⟨(some 33), .call false n_slices_Concatintint [(T 32)], none⟩,
 ⟨(some 34), .build [(.int .i64 (0)), (.slice none 0 0)] [(0, 1, (T 27)), (1, 1, (T 33))], none⟩,
 ⟨(some 35), .bslice (some 2) [(T 34)], none⟩,
 ⟨(some 36), .app (some 2) 32 (T 22) (T 35), none⟩,
 ⟨(some 3), .mv (T 36), none⟩])))
 (.reg [⟨(some 11), .mv (T 4), none⟩,
 ⟨(some 12), .bin .add (T 11) (C (2)), none⟩,
 ⟨(some 4), .mv (T 12), none⟩]))))))
 (.seq (.reg [⟨(some 37), .mv (T 3), none⟩,
 ⟨(some 2), .mv (T 37), none⟩])
 .ret))))
theorem e_huff_pairs : slimC Try.prog 38 (Try.f46.body.getD .skip) = s_huff_pairs := by kernel_rfl
theorem r_huff_pairs : slimRes Try.prog Try.f46 = some [.tmp 2] := by kernel_rfl
def s_slices_stableCmpFunchuff_batch : SCode :=
 (.seq (.reg [⟨(some 6), .mv (C (20)), none⟩])
 (.seq (.reg [⟨(some 10), .mv (T 6), none⟩,
 ⟨(some 7), .mv (C (0)), none⟩,
 ⟨(some 8), .mv (T 10), none⟩])
 (.seq (.block 0
 (.loop
 (.seq (.seq (.reg [⟨(some 11), .mv (T 8), none⟩,
 ⟨(some 12), .mv (T 1), none⟩,
 ⟨(some 13), .bin .leq (T 11) (T 12), none⟩])
 (.cond (T 13)
 .skip
 (.exit 0)))
 (.block 1
 (.seq (.reg [⟨(some 14), .mv (T 0), none⟩,
 ⟨(some 15), .mv (T 7), none⟩,
 ⟨(some 16), .mv (T 8), none⟩,
 ⟨(some 17), .mv (T 2), none⟩,
 ⟨(some 18), .call true n_slices_insertionSortCmpFunchuff_batch [(T 14), (T 15), (T 16), (T 17)], none⟩])
 (.seq (.reg [⟨(some 19), .mv (T 8), none⟩,
 ⟨(some 7), .mv (T 19), none⟩])
 (.reg [⟨(some 20), .mv (T 8), none⟩,
 ⟨(some 21), .mv (T 6), none⟩,
 ⟨(some 22), .bin .add (T 20) (T 21), none⟩,
 ⟨(some 8), .mv (T 22), none⟩])))))))
 (.seq (.reg [⟨(some 23), .mv (T 0), none⟩,
 ⟨(some 24), .mv (T 7), none⟩,
 ⟨(some 25), .mv (T 1), none⟩,
 ⟨(some 26), .mv (T 2), none⟩,
 ⟨(some 27), .call true n_slices_insertionSortCmpFunchuff_batch [(T 23), (T 24), (T 25), (T 26)], none⟩])
 (.block 2
 (.loop
 (.seq (.seq (.reg [⟨(some 28), .mv (T 6), none⟩,
 ⟨(some 29), .mv (T 1), none⟩,
 ⟨(some 30), .bin .lss (T 28) (T 29), none⟩])
 (.cond (T 30)
 .skip
 (.exit 2)))
 (.block 3
 (.seq (.reg [⟨(some 31), .mv (T 6), none⟩,
 ⟨(some 32), .bin .mul (C (2)) (T 31), none⟩,
 ⟨(some 7), .mv (C (0)), none⟩,
 ⟨(some 8), .mv (T 32), none⟩])
 (.seq (.block 4
 (.loop
 (.seq (.seq (.reg [⟨(some 33), .mv (T 8), none⟩,
 ⟨(some 34), .mv (T 1), none⟩,
 ⟨(some 35), .bin .leq (T 33) (T 34), none⟩])
 (.cond (T 35)
 .skip
 (.exit 4)))
 (.block 5
 (.seq (.reg [⟨(some 36), .mv (T 0), none⟩,
 ⟨(some 37), .mv (T 7), none⟩,
 ⟨(some 38), .mv (T 7), none⟩,
 ⟨(some 39), .mv (T 6), none⟩,
 ⟨(some 40), .bin .add (T 38) (T 39), none⟩,
 ⟨(some 41), .mv (T 8), none⟩,
 ⟨(some 42), .mv (T 2), none⟩,
 ⟨(some 43), .call true n_slices_symMergeCmpFunchuff_batch [(T 36), (T 37), (T 40), (T 41), (T 42)], none⟩])
 (.seq (.reg [⟨(some 44), .mv (T 8), none⟩,
 ⟨(some 7), .mv (T 44), none⟩])
 (.reg [⟨(some 45), .mv (T 8), none⟩,
 ⟨(some 46), .mv (T 6), none⟩,
 ⟨(some 47), .bin .mul (C (2)) (T 46), none⟩,
 ⟨(some 48), .bin .add (T 45) (T 47), none⟩,
 ⟨(some 8), .mv (T 48), none⟩])))))))
 (.seq (.seq (.reg [⟨(some 49), .mv (T 7), none⟩,
 ⟨(some 50), .mv (T 6), none⟩,
 ⟨(some 51), .bin .add (T 49) (T 50), none⟩,
 ⟨(some 9), .mv (T 51), none⟩])
 (.seq (.reg [⟨(some 52), .mv (T 9), none⟩,
 ⟨(some 53), .mv (T 1), none⟩,
 ⟨(some 54), .bin .lss (T 52) (T 53), none⟩])
 (.cond (T 54)
 (.reg [⟨(some 55), .mv (T 0), none⟩,
 ⟨(some 56), .mv (T 7), none⟩,
 ⟨(some 57), .mv (T 9), none⟩,
 ⟨(some 58), .mv (T 1), none⟩,
 ⟨(some 59), .mv (T 2), none⟩,
 ⟨(some 60), .call true n_slices_symMergeCmpFunchuff_batch [(T 55), (T 56), (T 57), (T 58), (T 59)], none⟩])
 .skip)))
 (.reg [⟨(some 61), .mv (T 6), none⟩,
 ⟨(some 62), .bin .mul (T 61) (C (2)), none⟩,
 ⟨(some 6), .mv (T 62), none⟩]))))))))))))
theorem e_slices_stableCmpFunchuff_batch : slimC Try.prog 63 (Try.f47.body.getD .skip) = s_slices_stableCmpFunchuff_batch := by kernel_rfl
theorem r_slices_stableCmpFunchuff_batch : slimRes Try.prog Try.f47 = some [] := by kernel_rfl
def s_cmp_Compareint : SCode :=
 (.seq (.reg [⟨(some 4), .mv (C (0)), none⟩])
 (.seq (.reg [⟨(some 7), .mv (T 0), none⟩,
 ⟨(some 8), .call true n_cmp_isNaNint [(T 7)], none⟩,
 ⟨(some 5), .mv (T 8), none⟩])
 (.seq (.reg [⟨(some 9), .mv (T 1), none⟩,
 ⟨(some 10), .call true n_cmp_isNaNint [(T 9)], none⟩,
 ⟨(some 6), .mv (T 10), none⟩])
 (.seq (.seq (.reg [⟨(some 11), .mv (T 5), none⟩])
 (.cond (T 11)
 (.seq (.seq (.reg [⟨(some 12), .mv (T 6), none⟩])
 (.cond (T 12)
 (.seq (.reg [⟨(some 4), .mv (C (0)), none⟩])
 .ret)
 .skip))
 (.seq (.reg [⟨(some 4), .mv (C (-1)), none⟩])
 .ret))
 .skip))
 (.seq (.seq (.reg [⟨(some 13), .mv (T 6), none⟩])
 (.cond (T 13)
 (.seq (.reg [⟨(some 4), .mv (C (1)), none⟩])
 .ret)
 .skip))
 (.seq (.seq (.reg [⟨(some 14), .mv (T 0), none⟩,
 ⟨(some 15), .mv (T 1), none⟩,
 ⟨(some 16), .bin .lss (T 14) (T 15), none⟩])
 (.cond (T 16)
 (.seq (.reg [⟨(some 4), .mv (C (-1)), none⟩])
 .ret)
 .skip))
 (.seq (.seq (.reg [⟨(some 17), .mv (T 0), none⟩,
 ⟨(some 18), .mv (T 1), none⟩,
 ⟨(some 19), .bin .gtr (T 17) (T 18), none⟩])
 (.cond (T 19)
 (.seq (.reg [⟨(some 4), .mv (C (1)), none⟩])
 .ret)
 .skip))
 (.seq (.reg [⟨(some 4), .mv (C (0)), none⟩])
 .ret))))))))
theorem e_cmp_Compareint : slimC Try.prog 20 (Try.f48.body.getD .skip) = s_cmp_Compareint := by kernel_rfl
theorem r_cmp_Compareint : slimRes Try.prog Try.f48 = some [.tmp 4] := by kernel_rfl
def s_slices_Growhuff_batchhuff_batch : SCode :=
 (.seq (.reg [⟨(some 4), .mv (.const (.slice none 0 0)), none⟩])
 (.seq (.seq (.reg [⟨(some 5), .mv (T 1), none⟩,
 ⟨(some 6), .bin .lss (T 5) (C (0)), none⟩])
 (.cond (T 6)
 (.reg [⟨(some 7), .no, none⟩,
 ⟨none, .no, none⟩])
 .skip))
 (.seq (.seq (.reg [⟨(some 8), .mv (T 1), none⟩,
 ⟨(some 9), .mv (T 0), none⟩,
 ⟨(some 10), .capn (T 9), none⟩,
 ⟨(some 11), .mv (T 0), none⟩,
 ⟨(some 12), .len false (T 11), none⟩,
 ⟨(some 13), .bin .sub (T 10) (T 12), none⟩,
 ⟨(some 14), .bin .sub (T 8) (T 13), none⟩,
 ⟨(some 1), .mv (T 14), none⟩])
 (.seq (.reg [⟨(some 15), .mv (T 1), none⟩,
 ⟨(some 16), .bin .gtr (T 15) (C (0)), none⟩])
 (.cond (T 16)
 (.reg [⟨(some 17), .mv (T 0), none⟩,
 ⟨(some 18), .mv (T 0), none⟩,
 ⟨(some 19), .capn (T 18), none⟩,
 ⟨(some 20), .sl (some 2) (T 17) none (some (T 19)), none⟩,
 ⟨(some 21), .mv (T 1), none⟩,
 ⟨(some 22), .appz (some 2) 32 [(.int .i64 (0)), (.slice none 0 0)] (T 20) (T 21), none⟩,
 ⟨(some 23), .mv (T 0), none⟩,
 ⟨(some 24), .len false (T 23), none⟩,
 ⟨(some 25), .sl (some 2) (T 22) none (some (T 24)), none⟩,
 ⟨(some 0), .mv (T 25), none⟩])
 .skip)))
 (.seq (.reg [⟨(some 26), .mv (T 0), none⟩,
 ⟨(some 4), .mv (T 26), none⟩])
 .ret))))
theorem e_slices_Growhuff_batchhuff_batch : slimC Try.prog 27 (Try.f49.body.getD .skip) = s_slices_Growhuff_batchhuff_batch := by kernel_rfl
theorem r_slices_Growhuff_batchhuff_batch : slimRes Try.prog Try.f49 = some [.tmp 4] := by kernel_rfl
def s_slices_Concatintint : SCode :=
 (.seq (.reg [⟨(some 2), .mv (.const (.slice none 0 0)), none⟩])
 (.seq (.reg [⟨(some 3), .mv (C (0)), none⟩])
 (.seq (.seq (.reg [⟨(some 9), .mv (T 0), none⟩,
 ⟨(some 10), .len false (T 9), none⟩,
 ⟨(some 11), .mv (C (0)), none⟩])
 (.block 0
 (.loop
 (.seq (.reg [⟨(some 12), .bin .lss (T 11) (T 10), none⟩])
 (.seq (.cond (T 12)
 .skip
 (.exit 0))
 (.seq (.block 1
 (.seq (.reg [⟨(some 13), .iaddr none (T 9) (T 11), none⟩,
 ⟨(some 14), .load none (T 13), none⟩,
 ⟨(some 5), .mv (T 14), none⟩])
 (.seq (.reg [⟨(some 15), .mv (T 3), none⟩,
 ⟨(some 16), .mv (T 5), none⟩,
 ⟨(some 17), .len false (T 16), none⟩,
 ⟨(some 18), .bin .add (T 15) (T 17), none⟩,
 ⟨(some 3), .mv (T 18), none⟩])
 (.seq (.reg [⟨(some 19), .mv (T 3), none⟩,
 ⟨(some 20), .bin .lss (T 19) (C (0)), none⟩])
 (.cond (T 20)
 (.reg [⟨(some 21), .no, none⟩,
 ⟨none, .no, none⟩])
 .skip)))))
 (.reg [⟨(some 22), .bin .add (T 11) (C (1)), none⟩,
 ⟨(some 11), .mv (T 22), none⟩])))))))
 (.seq (.reg [⟨(some 23), .mv (T 3), none⟩,
 ⟨(some 24), .call true n_slices_Growintint [(.const (.slice none 0 0)), (T 23)], none⟩,
 ⟨(some 6), .mv (T 24), none⟩])
 (.seq (.seq (.reg [⟨(some 25), .mv (T 0), none⟩,
 ⟨(some 26), .len false (T 25), none⟩,
 ⟨(some 27), .mv (C (0)), none⟩])
 (.block 2
 (.loop
 (.seq (.reg [⟨(some 28), .bin .lss (T 27) (T 26), none⟩])
 (.seq (.cond (T 28)
 .skip
 (.exit 2))
 (.seq (.block 3
 (.seq (.reg [⟨(some 29), .iaddr none (T 25) (T 27), none⟩,
 ⟨(some 30), .load none (T 29), none⟩,
 ⟨(some 8), .mv (T 30), none⟩])
 (.reg [⟨(some 31), .mv (T 6), none⟩,
 ⟨(some 32), .mv (T 8), none⟩,
 ⟨(some 33), .app none 8 (T 31) (T 32), none⟩,
 ⟨(some 6), .mv (T 33), none⟩])))
 (.reg [⟨(some 34), .bin .add (T 27) (C (1)), none⟩,
 ⟨(some 27), .mv (T 34), none⟩])))))))
 (.seq (.reg [⟨(some 35), .mv (T 6), none⟩,
 ⟨(some 2), .mv (T 35), none⟩])
 .ret))))))
theorem e_slices_Concatintint : slimC Try.prog 36 (Try.f50.body.getD .skip) = s_slices_Concatintint := by kernel_rfl
theorem r_slices_Concatintint : slimRes Try.prog Try.f50 = some [.tmp 2] := by kernel_rfl
def s_slices_insertionSortCmpFunchuff_batch : SCode :=
 (.seq (.reg [⟨(some 10), .mv (T 1), none⟩,
 ⟨(some 11), .bin .add (T 10) (C (1)), none⟩,
 ⟨(some 8), .mv (T 11), none⟩])
 (.block 0
 (.loop
 (.seq (.seq (.reg [⟨(some 12), .mv (T 8), none⟩,
 ⟨(some 13), .mv (T 2), none⟩,
 ⟨(some 14), .bin .lss (T 12) (T 13), none⟩])
 (.cond (T 14)
 .skip
 (.exit 0)))
 (.seq (.block 1
 (.seq (.reg [⟨(some 17), .mv (T 8), none⟩,
 ⟨(some 9), .mv (T 17), none⟩])
 (.block 2
 (.loop
 (.seq (.seq (.reg [⟨(some 18), .mv (T 9), none⟩,
 ⟨(some 19), .mv (T 1), none⟩,
 ⟨(some 20), .bin .gtr (T 18) (T 19), none⟩,
 ⟨(some 21), .mv (T 20), none⟩,
 ⟨(some 22), .mv (T 3), (some (21, true))⟩,
 ⟨(some 23), .mv (T 0), (some (21, true))⟩,
 ⟨(some 24), .mv (T 9), (some (21, true))⟩,
 ⟨(some 25), .iaddr (some 2) (T 23) (T 24), (some (21, true))⟩,
 ⟨(some 26), .load (some 2) (T 25), (some (21, true))⟩,
 ⟨(some 27), .mv (T 0), (some (21, true))⟩,
 ⟨(some 28), .mv (T 9), (some (21, true))⟩,
 ⟨(some 29), .bin .sub (T 28) (C (1)), (some (21, true))⟩,
 ⟨(some 30), .iaddr (some 2) (T 27) (T 29), (some (21, true))⟩,
 ⟨(some 31), .load (some 2) (T 30), (some (21, true))⟩,
 ⟨(some 32), .callv true (T 22) [(T 26), (T 31)], (some (21, true))⟩,
 ⟨(some 33), .bin .lss (T 32) (C (0)), (some (21, true))⟩,
 ⟨(some 34), .pick (T 21) (T 33) (.const (.bool false)), none⟩])
 (.cond (T 34)
 .skip
 (.exit 2)))
 (.seq (.block 3
 (.reg [⟨(some 37), .mv (T 0), none⟩,
 ⟨(some 38), .mv (T 9), none⟩,
 ⟨(some 39), .mv (T 0), none⟩,
 ⟨(some 40), .mv (T 9), none⟩,
 ⟨(some 41), .bin .sub (T 40) (C (1)), none⟩,
 ⟨(some 42), .mv (T 0), none⟩,
 ⟨(some 43), .mv (T 9), none⟩,
 ⟨(some 44), .bin .sub (T 43) (C (1)), none⟩,
 ⟨(some 45), .iaddr (some 2) (T 42) (T 44), none⟩,
 ⟨(some 46), .load (some 2) (T 45), none⟩,
 ⟨(some 47), .mv (T 0), none⟩,
 ⟨(some 48), .mv (T 9), none⟩,
 ⟨(some 49), .iaddr (some 2) (T 47) (T 48), none⟩,
 ⟨(some 50), .load (some 2) (T 49), none⟩,
 ⟨(some 51), .iaddr (some 2) (T 37) (T 38), none⟩,
 ⟨none, .store (some 2) (T 51) (T 46), none⟩,
 ⟨(some 52), .iaddr (some 2) (T 39) (T 41), none⟩,
 ⟨none, .store (some 2) (T 52) (T 50), none⟩]))
 (.reg [⟨(some 35), .mv (T 9), none⟩,
 ⟨(some 36), .bin .sub (T 35) (C (1)), none⟩,
 ⟨(some 9), .mv (T 36), none⟩])))))))
 (.reg [⟨(some 15), .mv (T 8), none⟩,
 ⟨(some 16), .bin .add (T 15) (C (1)), none⟩,
 ⟨(some 8), .mv (T 16), none⟩]))))))
theorem e_slices_insertionSortCmpFunchuff_batch : slimC Try.prog 53 (Try.f51.body.getD .skip) = s_slices_insertionSortCmpFunchuff_batch := by kernel_rfl
theorem r_slices_insertionSortCmpFunchuff_batch : slimRes Try.prog Try.f51 = some [] := by kernel_rfl
def s_slices_symMergeCmpFunchuff_batch : SCode :=
 (.seq (.seq (.reg [⟨(some 25), .mv (T 2), none⟩,
 ⟨(some 26), .mv (T 1), none⟩,
 ⟨(some 27), .bin .sub (T 25) (T 26), none⟩,
 ⟨(some 28), .bin .eql (T 27) (C (1)), none⟩])
 (.cond (T 28)
 (.seq (.reg [⟨(some 29), .mv (T 2), none⟩,
 ⟨(some 10), .mv (T 29), none⟩])
 (.seq (.reg [⟨(some 30), .mv (T 3), none⟩,
 ⟨(some 11), .mv (T 30), none⟩])
 (.seq (.block 0
 (.loop
 (.seq (.seq (.reg [⟨(some 31), .mv (T 10), none⟩,
 ⟨(some 32), .mv (T 11), none⟩,
 ⟨(some 33), .bin .lss (T 31) (T 32), none⟩])
 (.cond (T 33)
 .skip
 (.exit 0)))
 (.block 1
 (.seq (.reg [⟨(some 34), .mv (T 10), none⟩,
 ⟨(some 35), .mv (T 11), none⟩,
 ⟨(some 36), .bin .add (T 34) (T 35), none⟩,
 ⟨(some 37), .ci .u64 (T 36), none⟩,
 ⟨(some 38), .bin .shr (T 37) (.const (.int .u64 (1))), none⟩,
 ⟨(some 39), .ci .i64 (T 38), none⟩,
 ⟨(some 12), .mv (T 39), none⟩])
 (.seq (.reg [⟨(some 40), .mv (T 4), none⟩,
 ⟨(some 41), .mv (T 0), none⟩,
 ⟨(some 42), .mv (T 12), none⟩,
 ⟨(some 43), .iaddr (some 2) (T 41) (T 42), none⟩,
 ⟨(some 44), .load (some 2) (T 43), none⟩,
 ⟨(some 45), .mv (T 0), none⟩,
 ⟨(some 46), .mv (T 1), none⟩,
 ⟨(some 47), .iaddr (some 2) (T 45) (T 46), none⟩,
 ⟨(some 48), .load (some 2) (T 47), none⟩,
 ⟨(some 49), .callv true (T 40) [(T 44), (T 48)], none⟩,
 ⟨(some 50), .bin .lss (T 49) (C (0)), none⟩])
 (.cond (T 50)
 (.reg [⟨(some 51), .mv (T 12), none⟩,
 ⟨(some 52), .bin .add (T 51) (C (1)), none⟩,
 ⟨(some 10), .mv (T 52), none⟩])
 (.reg [⟨(some 53), .mv (T 12), none⟩,
 ⟨(some 11), .mv (T 53), none⟩]))))))))
 (.seq (.seq (.reg [⟨(some 54), .mv (T 1), none⟩,
 ⟨(some 13), .mv (T 54), none⟩])
 (.block 2
 (.loop
 (.seq (.seq (.reg [⟨(some 55), .mv (T 13), none⟩,
 ⟨(some 56), .mv (T 10), none⟩,
 ⟨(some 57), .bin .sub (T 56) (C (1)), none⟩,
 ⟨(some 58), .bin .lss (T 55) (T 57), none⟩])
 (.cond (T 58)
 .skip
 (.exit 2)))
 (.seq (.block 3
 (.reg [⟨(some 61), .mv (T 0), none⟩,
 ⟨(some 62), .mv (T 13), none⟩,
 ⟨(some 63), .mv (T 0), none⟩,
 ⟨(some 64), .mv (T 13), none⟩,
 ⟨(some 65), .bin .add (T 64) (C (1)), none⟩,
 ⟨(some 66), .mv (T 0), none⟩,
 ⟨(some 67), .mv (T 13), none⟩,
 ⟨(some 68), .bin .add (T 67) (C (1)), none⟩,
 ⟨(some 69), .iaddr (some 2) (T 66) (T 68), none⟩,
 ⟨(some 70), .load (some 2) (T 69), none⟩,
 ⟨(some 71), .mv (T 0), none⟩,
 ⟨(some 72), .mv (T 13), none⟩,
 ⟨(some 73), .iaddr (some 2) (T 71) (T 72), none⟩,
 ⟨(some 74), .load (some 2) (T 73), none⟩,
 ⟨(some 75), .iaddr (some 2) (T 61) (T 62), none⟩,
 ⟨none, .store (some 2) (T 75) (T 70), none⟩,
 ⟨(some 76), .iaddr (some 2) (T 63) (T 65), none⟩,
 ⟨none, .store (some 2) (T 76) (T 74), none⟩]))
 (.reg [⟨(some 59), .mv (T 13), none⟩,
 ⟨(some 60), .bin .add (T 59) (C (1)), none⟩,
 ⟨(some 13), .mv (T 60), none⟩]))))))
 .ret))))
 .skip))
 (.seq (.seq (.reg [⟨(some 77), .mv (T 3), none⟩,
 ⟨(some 78), .mv (T 2), none⟩,
 ⟨(some 79), .bin .sub (T 77) (T 78), none⟩,
 ⟨(some 80), .bin .eql (T 79) (C (1)), none⟩])
 (.cond (T 80)
 (.seq (.reg [⟨(some 81), .mv (T 1), none⟩,
 ⟨(some 14), .mv (T 81), none⟩])
 (.seq (.reg [⟨(some 82), .mv (T 2), none⟩,
 ⟨(some 15), .mv (T 82), none⟩])
 (.seq (.block 4
 (.loop
 (.seq (.seq (.reg [⟨(some 83), .mv (T 14), none⟩,
 ⟨(some 84), .mv (T 15), none⟩,
 ⟨(some 85), .bin .lss (T 83) (T 84), none⟩])
 (.cond (T 85)
 .skip
 (.exit 4)))
 (.block 5
 (.seq (.reg [⟨(some 86), .mv (T 14), none⟩,
 ⟨(some 87), .mv (T 15), none⟩,
 ⟨(some 88), .bin .add (T 86) (T 87), none⟩,
 ⟨(some 89), .ci .u64 (T 88), none⟩,
 ⟨(some 90), .bin .shr (T 89) (.const (.int .u64 (1))), none⟩,
 ⟨(some 91), .ci .i64 (T 90), none⟩,
 ⟨(some 16), .mv (T 91), none⟩])
 (.seq (.reg [⟨(some 92), .mv (T 4), none⟩,
 ⟨(some 93), .mv (T 0), none⟩,
 ⟨(some 94), .mv (T 2), none⟩,
 ⟨(some 95), .iaddr (some 2) (T 93) (T 94), none⟩,
 ⟨(some 96), .load (some 2) (T 95), none⟩,
 ⟨(some 97), .mv (T 0), none⟩,
 ⟨(some 98), .mv (T 16), none⟩,
 ⟨(some 99), .iaddr (some 2) (T 97) (T 98), none⟩,
 ⟨(some 100), .load (some 2) (T 99), none⟩,
 ⟨(some 101), .callv true (T 92) [(T 96), (T 100)], none⟩,
 ⟨(some 102), .bin .lss (T 101) (C (0)), none⟩,
 ⟨(some 103), .un .not (T 102), none⟩])
 (.cond (T 103)
 (.reg [⟨(some 104), .mv (T 16), none⟩,
 ⟨(some 105), .bin .add (T 104) (C (1)), none⟩,
 ⟨(some 14), .mv (T 105), none⟩])
 (.reg [⟨(some 106), .mv (T 16), none⟩,
 ⟨(some 15), .mv (T 106), none⟩]))))))))
 (.seq (.seq (.reg [⟨(some 107), .mv (T 2), none⟩,
 ⟨(some 17), .mv (T 107), none⟩])
 (.block 6
 (.loop
 (.seq (.seq (.reg [⟨(some 108), .mv (T 17), none⟩,
 ⟨(some 109), .mv (T 14), none⟩,
 ⟨(some 110), .bin .gtr (T 108) (T 109), none⟩])
 (.cond (T 110)
 .skip
 (.exit 6)))
 (.seq (.block 7
 (.reg [⟨(some 113), .mv (T 0), none⟩,
 ⟨(some 114), .mv (T 17), none⟩,
 ⟨(some 115), .mv (T 0), none⟩,
 ⟨(some 116), .mv (T 17), none⟩,
 ⟨(some 117), .bin .sub (T 116) (C (1)), none⟩,
 ⟨(some 118), .mv (T 0), none⟩,
 ⟨(some 119), .mv (T 17), none⟩,
 ⟨(some 120), .bin .sub (T 119) (C (1)), none⟩,
 ⟨(some 121), .iaddr (some 2) (T 118) (T 120), none⟩,
 ⟨(some 122), .load (some 2) (T 121), none⟩,
 ⟨(some 123), .mv (T 0), none⟩,
 ⟨(some 124), .mv (T 17), none⟩,
 ⟨(some 125), .iaddr (some 2) (T 123) (T 124), none⟩,
 ⟨(some 126), .load (some 2) (T 125), none⟩,
 ⟨(some 127), .iaddr (some 2) (T 113) (T 114), none⟩,
 ⟨none, .store (some 2) (T 127) (T 122), none⟩,
 ⟨(some 128), .iaddr (some 2) (T 115) (T 117), none⟩,
 ⟨none, .store (some 2) (T 128) (T 126), none⟩]))
 (.reg [⟨(some 111), .mv (T 17), none⟩,
 ⟨(some 112), .bin .sub (T 111) (C (1)), none⟩,
 ⟨(some 17), .mv (T 112), none⟩]))))))
 .ret))))
 .skip))
 (.seq (.reg [⟨(some 129), .mv (T 1), none⟩,
 ⟨(some 130), .mv (T 3), none⟩,
 ⟨(some 131), .bin .add (T 129) (T 130), none⟩,
 ⟨(some 132), .ci .u64 (T 131), none⟩,
 ⟨(some 133), .bin .shr (T 132) (.const (.int .u64 (1))), none⟩,
 ⟨(some 134), .ci .i64 (T 133), none⟩,
 ⟨(some 18), .mv (T 134), none⟩])
 (.seq (.reg [⟨(some 135), .mv (T 18), none⟩,
 ⟨(some 136), .mv (T 2), none⟩,
 ⟨(some 137), .bin .add (T 135) (T 136), none⟩,
 ⟨(some 19), .mv (T 137), none⟩])
 (.seq (.reg [⟨(some 20), .mv (C (0)), none⟩,
 ⟨(some 21), .mv (C (0)), none⟩])
 (.seq (.seq (.reg [⟨(some 138), .mv (T 2), none⟩,
 ⟨(some 139), .mv (T 18), none⟩,
 ⟨(some 140), .bin .gtr (T 138) (T 139), none⟩])
 (.cond (T 140)
 (.seq (.reg [⟨(some 141), .mv (T 19), none⟩,
 ⟨(some 142), .mv (T 3), none⟩,
 ⟨(some 143), .bin .sub (T 141) (T 142), none⟩,
 ⟨(some 20), .mv (T 143), none⟩])
 (.reg [⟨(some 144), .mv (T 18), none⟩,
 ⟨(some 21), .mv (T 144), none⟩]))
 (.seq (.reg [⟨(some 145), .mv (T 1), none⟩,
 ⟨(some 20), .mv (T 145), none⟩])
 (.reg [⟨(some 146), .mv (T 2), none⟩,
 ⟨(some 21), .mv (T 146), none⟩]))))
 (.seq (.reg [⟨(some 147), .mv (T 19), none⟩,
 ⟨(some 148), .bin .sub (T 147) (C (1)), none⟩,
 ⟨(some 22), .mv (T 148), none⟩])
 (.seq (.block 8
 (.loop
 (.seq (.seq (.reg [⟨(some 149), .mv (T 20), none⟩,
 ⟨(some 150), .mv (T 21), none⟩,
 ⟨(some 151), .bin .lss (T 149) (T 150), none⟩])
 (.cond (T 151)
 .skip
 (.exit 8)))
 (.block 9
 (.seq (.reg [⟨(some 152), .mv (T 20), none⟩,
 ⟨(some 153), .mv (T 21), none⟩,
 ⟨(some 154), .bin .add (T 152) (T 153), none⟩,
 ⟨(some 155), .ci .u64 (T 154), none⟩,
 ⟨(some 156), .bin .shr (T 155) (.const (.int .u64 (1))), none⟩,
 ⟨(some 157), .ci .i64 (T 156), none⟩,
 ⟨(some 23), .mv (T 157), none⟩])
 (.seq (.reg [⟨(some 158), .mv (T 4), none⟩,
 ⟨(some 159), .mv (T 0), none⟩,
 ⟨(some 160), .mv (T 22), none⟩,
 ⟨(some 161), .mv (T 23), none⟩,
 ⟨(some 162), .bin .sub (T 160) (T 161), none⟩,
 ⟨(some 163), .iaddr (some 2) (T 159) (T 162), none⟩,
 ⟨(some 164), .load (some 2) (T 163), none⟩,
 ⟨(some 165), .mv (T 0), none⟩,
 ⟨(some 166), .mv (T 23), none⟩,
 ⟨(some 167), .iaddr (some 2) (T 165) (T 166), none⟩,
 ⟨(some 168), .load (some 2) (T 167), none⟩,
 ⟨(some 169), .callv true (T 158) [(T 164), (T 168)], none⟩,
 ⟨(some 170), .bin .lss (T 169) (C (0)), none⟩,
 ⟨(some 171), .un .not (T 170), none⟩])
 (.cond (T 171)
 (.reg [⟨(some 172), .mv (T 23), none⟩,
 ⟨(some 173), .bin .add (T 172) (C (1)), none⟩,
 ⟨(some 20), .mv (T 173), none⟩])
 (.reg [⟨(some 174), .mv (T 23), none⟩,
 ⟨(some 21), .mv (T 174), none⟩]))))))))
 (.seq (.reg [⟨(some 175), .mv (T 19), none⟩,
 ⟨(some 176), .mv (T 20), none⟩,
 ⟨(some 177), .bin .sub (T 175) (T 176), none⟩,
 ⟨(some 24), .mv (T 177), none⟩])
 (.seq (.seq (.reg [⟨(some 178), .mv (T 20), none⟩,
 ⟨(some 179), .mv (T 2), none⟩,
 ⟨(some 180), .bin .lss (T 178) (T 179), none⟩,
 ⟨(some 181), .mv (T 180), none⟩,
 ⟨(some 182), .mv (T 2), (some (181, true))⟩,
 ⟨(some 183), .mv (T 24), (some (181, true))⟩,
 ⟨(some 184), .bin .lss (T 182) (T 183), (some (181, true))⟩,
 ⟨(some 185), .pick (T 181) (T 184) (.const (.bool false)), none⟩])
 (.cond (T 185)
 (.reg [⟨(some 186), .mv (T 0), none⟩,
 ⟨(some 187), .mv (T 20), none⟩,
 ⟨(some 188), .mv (T 2), none⟩,
 ⟨(some 189), .mv (T 24), none⟩,
 ⟨(some 190), .mv (T 4), none⟩,
 ⟨(some 191), .call true n_slices_rotateCmpFunchuff_batch [(T 186), (T 187), (T 188), (T 189), (T 190)], none⟩])
 .skip))
 (.seq (.seq (.reg [⟨(some 192), .mv (T 1), none⟩,
 ⟨(some 193), .mv (T 20), none⟩,
 ⟨(some 194), .bin .lss (T 192) (T 193), none⟩,
 ⟨(some 195), .mv (T 194), none⟩,
 ⟨(some 196), .mv (T 20), (some (195, true))⟩,
 ⟨(some 197), .mv (T 18), (some (195, true))⟩,
 ⟨(some 198), .bin .lss (T 196) (T 197), (some (195, true))⟩,
 ⟨(some 199), .pick (T 195) (T 198) (.const (.bool false)), none⟩])
 (.cond (T 199)
 (.reg [⟨(some 200), .mv (T 0), none⟩,
 ⟨(some 201), .mv (T 1), none⟩,
 ⟨(some 202), .mv (T 20), none⟩,
 ⟨(some 203), .mv (T 18), none⟩,
 ⟨(some 204), .mv (T 4), none⟩,
 ⟨(some 205), .call true n_slices_symMergeCmpFunchuff_batch [(T 200), (T 201), (T 202), (T 203), (T 204)], none⟩])
 .skip))
 (.seq (.reg [⟨(some 206), .mv (T 18), none⟩,
 ⟨(some 207), .mv (T 24), none⟩,
 ⟨(some 208), .bin .lss (T 206) (T 207), none⟩,
 ⟨(some 209), .mv (T 208), none⟩,
 ⟨(some 210), .mv (T 24), (some (209, true))⟩,
 ⟨(some 211), .mv (T 3), (some (209, true))⟩,
 ⟨(some 212), .bin .lss (T 210) (T 211), (some (209, true))⟩,
 ⟨(some 213), .pick (T 209) (T 212) (.const (.bool false)), none⟩])
 (.cond (T 213)
 (.reg [⟨(some 214), .mv (T 0), none⟩,
 ⟨(some 215), .mv (T 18), none⟩,
 ⟨(some 216), .mv (T 24), none⟩,
 ⟨(some 217), .mv (T 3), none⟩,
 ⟨(some 218), .mv (T 4), none⟩,
 ⟨(some 219), .call true n_slices_symMergeCmpFunchuff_batch [(T 214), (T 215), (T 216), (T 217), (T 218)], none⟩])
 .skip)))))))))))))
theorem e_slices_symMergeCmpFunchuff_batch : slimC Try.prog 220 (Try.f52.body.getD .skip) = s_slices_symMergeCmpFunchuff_batch := by kernel_rfl
theorem r_slices_symMergeCmpFunchuff_batch : slimRes Try.prog Try.f52 = some [] := by kernel_rfl
def s_cmp_isNaNint : SCode :=
 (.seq (.reg [⟨(some 2), .mv (.const (.bool false)), none⟩])
 (.seq (.reg [⟨(some 3), .mv (T 0), none⟩,
 ⟨(some 4), .mv (T 0), none⟩,
 ⟨(some 5), .bin .neq (T 3) (T 4), none⟩,
 ⟨(some 2), .mv (T 5), none⟩])
 .ret))
theorem e_cmp_isNaNint : slimC Try.prog 6 (Try.f53.body.getD .skip) = s_cmp_isNaNint := by kernel_rfl
theorem r_cmp_isNaNint : slimRes Try.prog Try.f53 = some [.tmp 2] := by kernel_rfl
def s_slices_Growintint : SCode :=
 (.seq (.reg [⟨(some 4), .mv (.const (.slice none 0 0)), none⟩])
 (.seq (.seq (.reg [⟨(some 5), .mv (T 1), none⟩,
 ⟨(some 6), .bin .lss (T 5) (C (0)), none⟩])
 (.cond (T 6)
 (.reg [⟨(some 7), .no, none⟩,
 ⟨none, .no, none⟩])
 .skip))
 (.seq (.seq (.reg [⟨(some 8), .mv (T 1), none⟩,
 ⟨(some 9), .mv (T 0), none⟩,
 ⟨(some 10), .capn (T 9), none⟩,
 ⟨(some 11), .mv (T 0), none⟩,
 ⟨(some 12), .len false (T 11), none⟩,
 ⟨(some 13), .bin .sub (T 10) (T 12), none⟩,
 ⟨(some 14), .bin .sub (T 8) (T 13), none⟩,
 ⟨(some 1), .mv (T 14), none⟩])
 (.seq (.reg [⟨(some 15), .mv (T 1), none⟩,
 ⟨(some 16), .bin .gtr (T 15) (C (0)), none⟩])
 (.cond (T 16)
 (.reg [⟨(some 17), .mv (T 0), none⟩,
 ⟨(some 18), .mv (T 0), none⟩,
 ⟨(some 19), .capn (T 18), none⟩,
 ⟨(some 20), .sl none (T 17) none (some (T 19)), none⟩,
 ⟨(some 21), .mv (T 1), none⟩,
 ⟨(some 22), .appz none 8 [(.int .i64 (0))] (T 20) (T 21), none⟩,
 ⟨(some 23), .mv (T 0), none⟩,
 ⟨(some 24), .len false (T 23), none⟩,
 ⟨(some 25), .sl none (T 22) none (some (T 24)), none⟩,
 ⟨(some 0), .mv (T 25), none⟩])
 .skip)))
 (.seq (.reg [⟨(some 26), .mv (T 0), none⟩,
 ⟨(some 4), .mv (T 26), none⟩])
 .ret))))
theorem e_slices_Growintint : slimC Try.prog 27 (Try.f54.body.getD .skip) = s_slices_Growintint := by kernel_rfl
theorem r_slices_Growintint : slimRes Try.prog Try.f54 = some [.tmp 4] := by kernel_rfl
def s_slices_rotateCmpFunchuff_batch : SCode :=
 (.seq (.reg [⟨(some 12), .mv (T 2), none⟩,
 ⟨(some 13), .mv (T 1), none⟩,
 ⟨(some 14), .bin .sub (T 12) (T 13), none⟩,
 ⟨(some 10), .mv (T 14), none⟩])
 (.seq (.reg [⟨(some 15), .mv (T 3), none⟩,
 ⟨(some 16), .mv (T 2), none⟩,
 ⟨(some 17), .bin .sub (T 15) (T 16), none⟩,
 ⟨(some 11), .mv (T 17), none⟩])
 (.seq (.block 0
 (.loop
 (.seq (.seq (.reg [⟨(some 18), .mv (T 10), none⟩,
 ⟨(some 19), .mv (T 11), none⟩,
 ⟨(some 20), .bin .neq (T 18) (T 19), none⟩])
 (.cond (T 20)
 .skip
 (.exit 0)))
 (.block 1
 (.seq (.reg [⟨(some 21), .mv (T 10), none⟩,
 ⟨(some 22), .mv (T 11), none⟩,
 ⟨(some 23), .bin .gtr (T 21) (T 22), none⟩])
 (.cond (T 23)
 (.seq (.reg [⟨(some 24), .mv (T 0), none⟩,
 ⟨(some 25), .mv (T 2), none⟩,
 ⟨(some 26), .mv (T 10), none⟩,
 ⟨(some 27), .bin .sub (T 25) (T 26), none⟩,
 ⟨(some 28), .mv (T 2), none⟩,
 ⟨(some 29), .mv (T 11), none⟩,
 ⟨(some 30), .mv (T 4), none⟩,
 ⟨(some 31), .call true n_slices_swapRangeCmpFunchuff_batch [(T 24), (T 27), (T 28), (T 29), (T 30)], none⟩])
 (.reg [⟨(some 32), .mv (T 10), none⟩,
 ⟨(some 33), .mv (T 11), none⟩,
 ⟨(some 34), .bin .sub (T 32) (T 33), none⟩,
 ⟨(some 10), .mv (T 34), none⟩]))
 (.seq (.reg [⟨(some 35), .mv (T 0), none⟩,
 ⟨(some 36), .mv (T 2), none⟩,
 ⟨(some 37), .mv (T 10), none⟩,
 ⟨(some 38), .bin .sub (T 36) (T 37), none⟩,
 ⟨(some 39), .mv (T 2), none⟩,
 ⟨(some 40), .mv (T 11), none⟩,
 ⟨(some 41), .bin .add (T 39) (T 40), none⟩,
 ⟨(some 42), .mv (T 10), none⟩,
 ⟨(some 43), .bin .sub (T 41) (T 42), none⟩,
 ⟨(some 44), .mv (T 10), none⟩,
 ⟨(some 45), .mv (T 4), none⟩,
 ⟨(some 46), .call true n_slices_swapRangeCmpFunchuff_batch [(T 35), (T 38), (T 43), (T 44), (T 45)], none⟩])
 (.reg [⟨(some 47), .mv (T 11), none⟩,
 ⟨(some 48), .mv (T 10), none⟩,
 ⟨(some 49), .bin .sub (T 47) (T 48), none⟩,
 ⟨(some 11), .mv (T 49), none⟩]))))))))
 (.reg [⟨(some 50), .mv (T 0), none⟩,
 ⟨(some 51), .mv (T 2), none⟩,
 ⟨(some 52), .mv (T 10), none⟩,
 ⟨(some 53), .bin .sub (T 51) (T 52), none⟩,
 ⟨(some 54), .mv (T 2), none⟩,
 ⟨(some 55), .mv (T 10), none⟩,
 ⟨(some 56), .mv (T 4), none⟩,
 ⟨(some 57), .call true n_slices_swapRangeCmpFunchuff_batch [(T 50), (T 53), (T 54), (T 55), (T 56)], none⟩]))))
theorem e_slices_rotateCmpFunchuff_batch : slimC Try.prog 58 (Try.f55.body.getD .skip) = s_slices_rotateCmpFunchuff_batch := by kernel_rfl
theorem r_slices_rotateCmpFunchuff_batch : slimRes Try.prog Try.f55 = some [] := by kernel_rfl
def s_slices_swapRangeCmpFunchuff_batch : SCode :=
 (.seq (.reg [⟨(some 10), .mv (C (0)), none⟩])
 (.block 0
 (.loop
 (.seq (.seq (.reg [⟨(some 11), .mv (T 10), none⟩,
 ⟨(some 12), .mv (T 3), none⟩,
 ⟨(some 13), .bin .lss (T 11) (T 12), none⟩])
 (.cond (T 13)
 .skip
 (.exit 0)))
 (.seq (.block 1
 (.reg [⟨(some 16), .mv (T 0), none⟩,
 ⟨(some 17), .mv (T 1), none⟩,
 ⟨(some 18), .mv (T 10), none⟩,
 ⟨(some 19), .bin .add (T 17) (T 18), none⟩,
 ⟨(some 20), .mv (T 0), none⟩,
 ⟨(some 21), .mv (T 2), none⟩,
 ⟨(some 22), .mv (T 10), none⟩,
 ⟨(some 23), .bin .add (T 21) (T 22), none⟩,
 ⟨(some 24), .mv (T 0), none⟩,
 ⟨(some 25), .mv (T 2), none⟩,
 ⟨(some 26), .mv (T 10), none⟩,
 ⟨(some 27), .bin .add (T 25) (T 26), none⟩,
 ⟨(some 28), .iaddr (some 2) (T 24) (T 27), none⟩,
 ⟨(some 29), .load (some 2) (T 28), none⟩,
 ⟨(some 30), .mv (T 0), none⟩,
 ⟨(some 31), .mv (T 1), none⟩,
 ⟨(some 32), .mv (T 10), none⟩,
 ⟨(some 33), .bin .add (T 31) (T 32), none⟩,
 ⟨(some 34), .iaddr (some 2) (T 30) (T 33), none⟩,
 ⟨(some 35), .load (some 2) (T 34), none⟩,
 ⟨(some 36), .iaddr (some 2) (T 16) (T 19), none⟩,
 ⟨none, .store (some 2) (T 36) (T 29), none⟩,
 ⟨(some 37), .iaddr (some 2) (T 20) (T 23), none⟩,
 ⟨none, .store (some 2) (T 37) (T 35), none⟩]))
 (.reg [⟨(some 14), .mv (T 10), none⟩,
 ⟨(some 15), .bin .add (T 14) (C (1)), none⟩,
 ⟨(some 10), .mv (T 15), none⟩]))))))
theorem e_slices_swapRangeCmpFunchuff_batch : slimC Try.prog 38 (Try.f56.body.getD .skip) = s_slices_swapRangeCmpFunchuff_batch := by kernel_rfl
theorem r_slices_swapRangeCmpFunchuff_batch : slimRes Try.prog Try.f56 = some [] := by kernel_rfl
end Go.Proofs.Ytbmppmdklappiaa.Aw
namespace Go.Proofs.Ytbmppmdklappiaa.Aw
open Go
set_option linter.unusedSimpArgs false
set_option linter.unusedVariables false
set_option linter.defProp false
def nA (n : Nat) : AV := .sc (.int .i64 (n : Int))
theorem getD_nA {l : List Nat} {i : Nat} (h : i < l.length) : (l.map nA).getD i .junk = .sc (.int .i64 ((l.getD i 0 : Nat) : Int)) := by
  simp [List.getD, List.getElem?_eq_getElem h, nA]
theorem getD_zA {l : List Int} {i : Nat} (h : i < l.length) : (l.map int).getD i .junk = .sc (.int .i64 (l.getD i 0)) := by
  simp [List.getD, List.getElem?_eq_getElem h, int]
theorem free_nA {l : List Nat} : AV.free.freeL (l.map nA) = true := freeL_iff.2 fun x hx => by
  obtain ⟨n, _, rfl⟩ := List.mem_map.1 hx; rfl
theorem free_zA {l : List Int} : AV.free.freeL (l.map int) = true := freeL_iff.2 fun x hx => by
  obtain ⟨n, _, rfl⟩ := List.mem_map.1 hx; rfl
theorem renL_nA {ρ : Nat → Nat → Nat × Nat} {l : List Nat} : ren.renL ρ (l.map nA) = l.map nA := renL_free ρ _ free_nA
theorem renL_zA {ρ : Nat → Nat → Nat × Nat} {l : List Int} : ren.renL ρ (l.map int) = l.map int := renL_free ρ _ free_zA
theorem take_nA {l : List Nat} {n : Nat} : (l.map nA).take n = (l.take n).map nA := by simp
theorem drop_nA {l : List Nat} {n : Nat} : (l.map nA).drop n = (l.drop n).map nA := by simp
theorem take_zA {l : List Int} {n : Nat} : (l.map int).take n = (l.take n).map int := by simp
theorem drop_zA {l : List Int} {n : Nat} : (l.map int).drop n = (l.drop n).map int := by simp
theorem fzoL_nA {id g : Nat} {nl : Bool} {cells : List AV} {l : List Nat} : fzo.fzoL id g nl cells (l.map nA) = l.map nA := fzoL_free _ free_nA
theorem fzoL_zA {id g : Nat} {nl : Bool} {cells : List AV} {l : List Int} : fzo.fzoL id g nl cells (l.map int) = l.map int := fzoL_free _ free_zA
theorem frzL_nA {hp : Hp} : ∀ {l : List Nat}, frz.frzL hp (l.map nA) = l.map nA
  | [] => rfl
  | c :: l => by simp only [List.map_cons, frz.frzL, frzL_nA]; rfl
theorem foL_b8 : ∀ {l : List UInt8}, AV.fo.foL (l.map u8) = true
  | [] => rfl
  | _ :: l => by simp only [List.map_cons, AV.fo.foL, u8, AV.fo, Bool.true_and]; exact foL_b8
theorem foL_nA : ∀ {l : List Nat}, AV.fo.foL (l.map nA) = true
  | [] => rfl
  | _ :: l => by simp only [List.map_cons, AV.fo.foL, nA, AV.fo, Bool.true_and]; exact foL_nA
theorem splice_nA {l : List Nat} {k x : Nat} (h : k < l.length) : (l.take k).map nA ++ (.sc (.int .i64 (x : Int)) :: (l.drop (k + 1)).map nA) = (l.set k x).map nA := by
  rw [List.set_eq_take_append_cons_drop, if_pos h]
  simp [nA]
theorem outOf_nil {st : ASt} : outOf st [] = .tup [] := rfl
def iR := And.intro @outOf_nil <| And.intro (And.intro (And.intro @getD_nA @getD_zA) (And.intro @free_nA @free_zA)) (And.intro (And.intro (And.intro @renL_nA @renL_zA) (And.intro (And.intro @take_nA @drop_nA) (And.intro @take_zA @drop_zA))) (And.intro (And.intro @fzoL_nA @fzoL_zA) @frzL_nA))
def fR := And.intro (And.intro (And.intro @fzo_sc @fzo_w32) (And.intro @fzo_junk @fzo_sl)) (And.intro (And.intro (And.intro @fzo_fp @fzo_agg) (And.intro @fzo_tup @fzo_own)) (And.intro (And.intro (And.intro @fzo_op @fzoL_nil) (And.intro @fzoL_cons @fzoL_u8)) (And.intro @fzoL_32 (And.intro @fzH_at @AO_fzo))))
theorem snocD {α : Type} {l : List α} {k : Nat} {d : α} (h : k < l.length) : l.take (k + 1) = l.take k ++ [l.getD k d] := by
  rw [List.take_succ_eq_append_getElem h]; simp [List.getD, List.getElem?_eq_getElem h]
theorem wrap_u64_id3 {x : Int} (h1 : 0 ≤ x) (h2 : x < 18446744073709551616) : IntKind.u64.wrap x = x := by
  simp only [IntKind.wrap, IntKind.bits, IntKind.signed]
  simp
  omega
theorem two_pow_le {n m : Nat} (h : n ≤ m) : 2 ^ n ≤ 2 ^ m := Nat.pow_le_pow_right (by omega) h
end Go.Proofs.Ytbmppmdklappiaa.Aw
namespace Go.Proofs.Ytbmppmdklappiaa.Aw
open Go
set_option linter.unusedSimpArgs false
set_option linter.unusedVariables false
theorem bytes_Clone_h [Tabs Try.prog] (nl : Bool) (l : List UInt8) (hl : l.length ≤ 1000000) (hn : nl = true → l = []) : HCon Try.prog n_bytes_Clone [.sl nl none (l.map u8)] [] (.own 5 2 none 0 l.length) [(5, 2, .row nl (l.map u8))] 3 := by
  refine HCon.of' mix Try.func31 rfl Try.ntmps31 e_bytes_Clone r_bytes_Clone (by simp) (by simp only [AV.gl.glL, AV.gl, and_true]; exact glL_of_free _ _ free_u8) (by simp) ?_
  unfold s_bytes_Clone
  cases nl with
  | true =>
    obtain rfl := hn rfl
    iterate 8 (first | refine wA ?_ | refine wB ?_ | refine wC rfl ?_ | refine wD rfl ?_ | refine wE ?_ | refine wF (by omega) ?_ | ((first | refine wG ?_ | refine wH ?_ | refine wI ?_ | refine wJ ?_ | refine wK ?_ | refine wL ?_); simp (disch := omega) only [wP, wZ, undef, seval, if_pos, if_neg, aStore, frz, AV.flat, ↓reduceIte, ne_eq, reduceCtorEq, ByteArray.size]))
    refine SWp.adopt 2 none (by simp (disch := omega) only [wP, wZ, undef, seval, if_pos, if_neg, aStore, frz, AV.flat, ↓reduceIte, ne_eq, reduceCtorEq, ByteArray.size]) ?_
    refine SWp.le (le_mk (N := 8) (gc := 2) (l := [(2, .own 2 1 none 0 0)]) (h := [(2, 1, .row true [])]) rfl ?_ ?_ ?_) ?_
    iterate 3 (case _ => simp (disch := omega) only [wP, wZ, undef, seval, if_pos, if_neg, aStore, frz, AV.flat, ↓reduceIte, ne_eq, reduceCtorEq, ByteArray.size])
    refine SWp.swap 2 5 (by simp (disch := omega) only [wP, wZ, undef, seval, if_pos, if_neg, aStore, frz, AV.flat, ↓reduceIte, ne_eq, reduceCtorEq, ByteArray.size, genOk]) (by simp (disch := omega) only [wP, wZ, undef, seval, if_pos, if_neg, aStore, frz, AV.flat, ↓reduceIte, ne_eq, reduceCtorEq, ByteArray.size, genOk]) ?_
    refine SWp.le (le_mk (N := 8) (gc := 2) (l := [(2, .own 5 1 none 0 0)]) (h := [(5, 1, .row true [])]) rfl ?_ ?_ ?_) ?_
    iterate 3 (case _ => simp (disch := omega) only [wP, wZ, undef, seval, if_pos, if_neg, aStore, frz, AV.flat, ↓reduceIte, ne_eq, reduceCtorEq, ByteArray.size, swr_eq, sw, swH])
    refine SWp.renew 5 1 (o := .row true []) (by simp (disch := omega) only [wP, wZ, undef, seval, if_pos, if_neg, aStore, frz, AV.flat, ↓reduceIte, ne_eq, reduceCtorEq, ByteArray.size]) ?_
    refine SWp.le (le_mk (N := 8) (gc := 3) (l := [(2, .own 5 2 none 0 0)]) (h := [(5, 2, .row true [])]) rfl ?_ ?_ ?_) ?_
    iterate 3 (case _ => simp (disch := omega) only [wP, wZ, undef, seval, if_pos, if_neg, aStore, frz, AV.flat, ↓reduceIte, ne_eq, reduceCtorEq, ByteArray.size, rgn_eq, rgH_at])
    repeat (first | refine wA ?_ | refine wB ?_ | refine wC rfl ?_ | refine wD rfl ?_ | refine wE ?_ | refine wF (by omega) ?_ | ((first | refine wG ?_ | refine wH ?_ | refine wI ?_ | refine wJ ?_ | refine wK ?_ | refine wL ?_); simp (disch := omega) only [wP, wZ, undef, seval, if_pos, if_neg, aStore, frz, AV.flat, ↓reduceIte, ne_eq, reduceCtorEq, ByteArray.size]))
  | false =>
    repeat (first | refine wA ?_ | refine wB ?_ | refine wC rfl ?_ | refine wD rfl ?_ | refine wE ?_ | refine wF (by omega) ?_ | ((first | refine wG ?_ | refine wH ?_ | refine wI ?_ | refine wJ ?_ | refine wK ?_ | refine wL ?_); simp (disch := omega) only [wP, wZ, undef, seval, if_pos, if_neg, aStore, frz, AV.flat, ↓reduceIte, ne_eq, reduceCtorEq, ByteArray.size]))
def numB : List Nat → Nat
  | [] => 0
  | x :: r => x + 2 * numB r
theorem numB_append {a b : List Nat} : numB (a ++ b) = numB a + 2 ^ a.length * numB b := by
  induction a with
  | nil => simp [numB]
  | cons x a ih => simp only [List.cons_append, numB, ih, List.length_cons, Nat.pow_succ, Nat.mul_add]; rw [Nat.mul_comm (2 ^ a.length) 2, Nat.mul_assoc]; omega
theorem numB_lt {l : List Nat} (h : ∀ x ∈ l, x < 2) : numB l < 2 ^ l.length := by
  induction l with
  | nil => simp [numB]
  | cons x l ih =>
    have h1 := h x (by simp)
    have h2 := ih fun y hy => h y (by simp [hy])
    simp only [numB, List.length_cons, Nat.pow_succ]; omega
end Go.Proofs.Ytbmppmdklappiaa.Aw
namespace Go.Proofs.Ytbmppmdklappiaa.Aw
open Go
set_option linter.unusedSimpArgs false
set_option linter.unusedVariables false
def byteAt (L : List Nat) (k : Nat) : UInt8 := UInt8.ofNat (numB ((L.drop (8 * k)).take 8))
def bytesB (L : List Nat) : List UInt8 := (List.range ((L.length + 7) / 8)).map (byteAt L)
theorem length_bytesB {L : List Nat} : (bytesB L).length = (L.length + 7) / 8 := by simp [bytesB]
theorem byteAt_append {L M : List Nat} {k : Nat} (h : 8 * k + 8 ≤ L.length) : byteAt (L ++ M) k = byteAt L k := by
  unfold byteAt
  rw [List.drop_append_of_le_length (by omega), List.take_append_of_le_length (by rw [List.length_drop]; omega)]
theorem bytesB_snoc0 {L : List Nat} {x : Nat} (h : L.length % 8 = 0) : bytesB (L ++ [x]) = bytesB L ++ [UInt8.ofNat x] := by
  unfold bytesB
  rw [List.length_append, List.length_singleton, show (L.length + 1 + 7) / 8 = (L.length + 7) / 8 + 1 by omega, List.range_succ, List.map_append]
  congr 1
  · refine List.map_congr_left fun k hk => ?_
    have := List.mem_range.1 hk
    exact byteAt_append (by omega)
  · have e : 8 * ((L.length + 7) / 8) = L.length := by omega
    simp only [List.map_cons, List.map_nil, byteAt, e, List.drop_left]
    simp [numB]
theorem bytesB_last {L : List Nat} (h : L.length % 8 ≠ 0) : (bytesB L).getD (L.length / 8) 0 = UInt8.ofNat (numB (L.drop (8 * (L.length / 8)))) := by
  have hk : L.length / 8 < (L.length + 7) / 8 := by omega
  have : (L.drop (8 * (L.length / 8))).take 8 = L.drop (8 * (L.length / 8)) := List.take_of_length_le (by rw [List.length_drop]; omega)
  simp only [List.getD, bytesB, List.getElem?_map, List.getElem?_range hk, Option.map_some, Option.getD_some, byteAt, this]
theorem bytesB_snoc1 {L : List Nat} {x : Nat} (h : L.length % 8 ≠ 0) : bytesB (L ++ [x]) = (bytesB L).set (L.length / 8) (UInt8.ofNat (numB (L.drop (8 * (L.length / 8))) + 2 ^ (L.length % 8) * x)) := by
  apply List.ext_getElem?
  intro k
  have hl : (L ++ [x]).length = L.length + 1 := by simp
  have e : (L.length + 1 + 7) / 8 = (L.length + 7) / 8 := by omega
  rw [List.getElem?_set, length_bytesB]
  by_cases hk : k < (L.length + 7) / 8
  · have h1 : (bytesB (L ++ [x]))[k]? = some (byteAt (L ++ [x]) k) := by simp [bytesB, e, hk]
    have h2 : (bytesB L)[k]? = some (byteAt L k) := by simp [bytesB, hk]
    rw [h1, h2]
    split
    · rename_i e'
      subst e'
      rw [if_pos hk]
      congr 1
      unfold byteAt
      rw [List.drop_append_of_le_length (by omega), List.take_of_length_le (by rw [List.length_append, List.length_drop, List.length_singleton]; omega), numB_append, List.length_drop]
      have : L.length - 8 * (L.length / 8) = L.length % 8 := by omega
      rw [this]; simp [numB]
    · rw [byteAt_append (by omega)]
  · have h1 : (bytesB (L ++ [x]))[k]? = none := List.getElem?_eq_none (by rw [length_bytesB, hl]; omega)
    have h2 : (bytesB L)[k]? = none := List.getElem?_eq_none (by rw [length_bytesB]; omega)
    rw [h1, h2]
    split
    · rename_i e'
      rw [e', if_neg hk]
    · rfl
def digB (v n : Nat) : List Nat := (List.range n).map fun k => v / 2 ^ k % 2
theorem digB_lt {v n : Nat} : ∀ x ∈ digB v n, x < 2 := by
  intro x hx; obtain ⟨k, _, rfl⟩ := List.mem_map.1 hx; exact Nat.mod_lt _ (by omega)
theorem length_digB {v n : Nat} : (digB v n).length = n := by simp [digB]
theorem digB_snoc {v n k : Nat} (h : k < n) : (digB v n).take (k + 1) = (digB v n).take k ++ [v / 2 ^ k % 2] := by
  rw [snocD (d := 0) (by rw [length_digB]; exact h)]; simp [digB, List.getD, h]
end Go.Proofs.Ytbmppmdklappiaa.Aw
namespace Go.Proofs.Ytbmppmdklappiaa.Aw
open Go
set_option linter.unusedSimpArgs false
set_option linter.unusedVariables false
def wt (n : Nat) : Nat := if n = 0 then 0 else 32768 / 2 ^ n
def kraft : List Nat → Nat
  | [] => 0
  | n :: r => wt n + kraft r
theorem kraft_append {a b : List Nat} : kraft (a ++ b) = kraft a + kraft b := by
  induction a with
  | nil => simp [kraft]
  | cons x a ih => simp only [List.cons_append, kraft, ih]; omega
theorem wt_le {n : Nat} : wt n ≤ 32768 := by
  unfold wt; split
  · omega
  · exact Nat.div_le_self _ _
theorem kraft_le {l : List Nat} : kraft l ≤ 32768 * l.length := by
  induction l with
  | nil => simp [kraft]
  | cons x l ih => simp only [kraft, List.length_cons]; have := wt_le (n := x); omega
theorem kraft_snoc {l : List Nat} {k : Nat} (h : k < l.length) : kraft (l.take (k + 1)) = kraft (l.take k) + wt (l.getD k 0) := by
  rw [snocD (d := 0) h, kraft_append]; simp [kraft]
theorem kraft_take_le {l : List Nat} {k : Nat} : kraft (l.take k) ≤ 32768 * l.length := by
  refine Nat.le_trans kraft_le (Nat.mul_le_mul_left _ ?_)
  rw [List.length_take]; omega
set_option maxRecDepth 100000 in
theorem huff_taken_c [Tabs Try.prog] (nl : Bool) (l : List Nat) (hl : l.length ≤ 1000) (h15 : ∀ x ∈ l, x ≤ 15) : Con Try.prog n_huff_taken [.sl nl none (l.map nA)] (int (kraft l : Nat)) := by
  refine Con.of' mix Try.func36 rfl Try.ntmps36 e_huff_taken r_huff_taken (by simp) (by simp only [AV.free, AV.free.freeL, free_nA, Bool.and_self]) rfl ?_
  unfold s_huff_taken
  repeat (first | refine wA ?_ | refine wB ?_ | refine wC rfl ?_ | refine wD rfl ?_ | refine wE ?_ | refine wF (by omega) ?_ | ((first | refine wG ?_ | refine wH ?_ | refine wI ?_ | refine wJ ?_ | refine wK ?_ | refine wL ?_); simp (disch := omega) only [wP, wZ, undef, seval, if_pos, if_neg, aStore, frz, AV.flat, ↓reduceIte, ne_eq, reduceCtorEq, ByteArray.size]))
  refine SWp.loop (α := Nat) (fun k => mk 20 0 [(3, int (kraft (l.take k) : Nat)), (6, .sl nl none (l.map nA)), (7, int l.length), (8, int k)] [])
    (fun k => k ≤ l.length) (fun k => l.length - k) 0 (Nat.zero_le _) (le_mk rfl ?_ ?_ ?_) ?_
  · exact Nat.le_refl _
  iterate 2 (case _ => simp (disch := omega) only [wP, wZ, undef, seval, if_pos, if_neg, aStore, frz, AV.flat, ↓reduceIte, ne_eq, reduceCtorEq, ByteArray.size, List.take_zero, kraft])
  rintro k hk -
  repeat (first | refine wA ?_ | refine wB ?_ | refine wC rfl ?_ | refine wD rfl ?_ | refine wE ?_ | refine wF (by omega) ?_ | ((first | refine wG ?_ | refine wH ?_ | refine wI ?_ | refine wJ ?_ | refine wK ?_ | refine wL ?_); simp (disch := omega) only [wP, wZ, undef, seval, if_pos, if_neg, aStore, frz, AV.flat, ↓reduceIte, ne_eq, reduceCtorEq, ByteArray.size]))
  refine SWp.cond rfl (fun h => ?_) (fun h => ?_)
  · simp only [decide_eq_true_eq] at h
    have hkl : k < l.length := by omega
    have hs := kraft_snoc hkl
    have hle := kraft_take_le (l := l) (k := k)
    have hx15 : l.getD k 0 ≤ 15 := by
      have : l.getD k 0 = l[k] := by simp [List.getD, List.getElem?_eq_getElem hkl]
      rw [this]; exact h15 _ (List.getElem_mem hkl)
    obtain ⟨x, hx⟩ : ∃ x, x = l.getD k 0 := ⟨_, rfl⟩
    rw [← hx] at hs hx15
    obtain ⟨y, hy⟩ : ∃ y, y = kraft (l.take k) := ⟨_, rfl⟩
    rw [← hy] at hs hle
    by_cases c0 : x = 0
    · subst c0
      have e : kraft (l.take (k + 1)) = y := by rw [hs]; simp [wt]
      repeat (first | refine wA ?_ | refine wB ?_ | refine wC rfl ?_ | refine wD rfl ?_ | refine wE ?_ | refine wF (by omega) ?_ | ((first | refine wG ?_ | refine wH ?_ | refine wI ?_ | refine wJ ?_ | refine wK ?_ | refine wL ?_); simp (disch := omega) only [wP, wZ, undef, seval, if_pos, if_neg, aStore, frz, AV.flat, ↓reduceIte, ne_eq, reduceCtorEq, ByteArray.size, iR, ← hx, ← hy]))
      refine At.of (k + 1) (by omega) (by omega) rfl rfl (Nat.le_refl _) ?_ ?_
      iterate 2 (case _ => simp (disch := omega) only [wP, wZ, undef, seval, if_pos, if_neg, aStore, frz, AV.flat, ↓reduceIte, ne_eq, reduceCtorEq, ByteArray.size, e])
    · have d0 : decide ((0 : Int) < (x : Int)) = true := decide_eq_true (by omega)
      have hw : wt x = 32768 / 2 ^ x := by simp [wt, c0]
      have hw2 := wt_le (n := x)
      obtain ⟨z, hz⟩ : ∃ z, z = 32768 / 2 ^ x := ⟨_, rfl⟩
      rw [← hz] at hw
      rw [hw] at hw2
      have e : kraft (l.take (k + 1)) = y + z := by rw [hs, hw]
      repeat (first | refine wA ?_ | refine wB ?_ | refine wC rfl ?_ | refine wD rfl ?_ | refine wE ?_ | refine wF (by omega) ?_ | ((first | refine wG ?_ | refine wH ?_ | refine wI ?_ | refine wJ ?_ | refine wK ?_ | refine wL ?_); simp (disch := omega) only [wP, wZ, undef, seval, if_pos, if_neg, aStore, frz, AV.flat, ↓reduceIte, ne_eq, reduceCtorEq, ByteArray.size, iR, ← hx, ← hy, d0, ← hz]))
      refine At.of (k + 1) (by omega) (by omega) rfl rfl (Nat.le_refl _) ?_ ?_
      iterate 2 (case _ => simp (disch := omega) only [wP, wZ, undef, seval, if_pos, if_neg, aStore, frz, AV.flat, ↓reduceIte, ne_eq, reduceCtorEq, ByteArray.size, e])
  · simp only [decide_eq_false_iff_not] at h
    obtain rfl : k = l.length := by omega
    repeat (first | refine wA ?_ | refine wB ?_ | refine wC rfl ?_ | refine wD rfl ?_ | refine wE ?_ | refine wF (by omega) ?_ | ((first | refine wG ?_ | refine wH ?_ | refine wI ?_ | refine wJ ?_ | refine wK ?_ | refine wL ?_); simp (disch := omega) only [wP, wZ, undef, seval, if_pos, if_neg, aStore, frz, AV.flat, ↓reduceIte, ne_eq, reduceCtorEq, ByteArray.size, List.take_length]))
set_option maxRecDepth 100000 in
theorem ref_share_c [Tabs Try.prog] (nl : Bool) (l : List Nat) (hl : l.length ≤ 1000) (h15 : ∀ x ∈ l, x ≤ 15) : Con Try.prog n_drayageref03_share [.sl nl none (l.map nA)] (int (kraft l : Nat)) := by
  refine Con.of' mix Try.func37 rfl Try.ntmps37 e_drayageref03_share r_drayageref03_share (by simp) (by simp only [AV.free, AV.free.freeL, free_nA, Bool.and_self]) rfl ?_
  unfold s_drayageref03_share
  repeat (first | refine wA ?_ | refine wB ?_ | refine wC rfl ?_ | refine wD rfl ?_ | refine wE ?_ | refine wF (by omega) ?_ | ((first | refine wG ?_ | refine wH ?_ | refine wI ?_ | refine wJ ?_ | refine wK ?_ | refine wL ?_); simp (disch := omega) only [wP, wZ, undef, seval, if_pos, if_neg, aStore, frz, AV.flat, ↓reduceIte, ne_eq, reduceCtorEq, ByteArray.size]))
  refine SWp.loop (α := Nat) (fun k => mk 32 0 [(0, .sl nl none (l.map nA)), (3, int (kraft (l.take k) : Nat)), (4, int k)] [])
    (fun k => k ≤ l.length) (fun k => l.length - k) 0 (Nat.zero_le _) (le_mk rfl ?_ ?_ ?_) ?_
  · exact Nat.le_refl _
  iterate 2 (case _ => simp (disch := omega) only [wP, wZ, undef, seval, if_pos, if_neg, aStore, frz, AV.flat, ↓reduceIte, ne_eq, reduceCtorEq, ByteArray.size, List.take_zero, kraft])
  rintro k hk -
  repeat (first | refine wA ?_ | refine wB ?_ | refine wC rfl ?_ | refine wD rfl ?_ | refine wE ?_ | refine wF (by omega) ?_ | ((first | refine wG ?_ | refine wH ?_ | refine wI ?_ | refine wJ ?_ | refine wK ?_ | refine wL ?_); simp (disch := omega) only [wP, wZ, undef, seval, if_pos, if_neg, aStore, frz, AV.flat, ↓reduceIte, ne_eq, reduceCtorEq, ByteArray.size]))
  refine SWp.cond rfl (fun h => ?_) (fun h => ?_)
  · simp only [decide_eq_true_eq] at h
    have hkl : k < l.length := by omega
    have hs := kraft_snoc hkl
    have hle := kraft_take_le (l := l) (k := k)
    have hx15 : l.getD k 0 ≤ 15 := by
      have : l.getD k 0 = l[k] := by simp [List.getD, List.getElem?_eq_getElem hkl]
      rw [this]; exact h15 _ (List.getElem_mem hkl)
    obtain ⟨x, hx⟩ : ∃ x, x = l.getD k 0 := ⟨_, rfl⟩
    rw [← hx] at hs hx15
    obtain ⟨y, hy⟩ : ∃ y, y = kraft (l.take k) := ⟨_, rfl⟩
    rw [← hy] at hs hle
    by_cases c0 : x = 0
    · subst c0
      have e : kraft (l.take (k + 1)) = y := by rw [hs]; simp [wt]
      repeat (first | refine wA ?_ | refine wB ?_ | refine wC rfl ?_ | refine wD rfl ?_ | refine wE ?_ | refine wF (by omega) ?_ | ((first | refine wG ?_ | refine wH ?_ | refine wI ?_ | refine wJ ?_ | refine wK ?_ | refine wL ?_); simp (disch := omega) only [wP, wZ, undef, seval, if_pos, if_neg, aStore, frz, AV.flat, ↓reduceIte, ne_eq, reduceCtorEq, ByteArray.size, iR, ← hx, ← hy]))
      refine At.of (k + 1) (by omega) (by omega) rfl rfl (Nat.le_refl _) ?_ ?_
      iterate 2 (case _ => simp (disch := omega) only [wP, wZ, undef, seval, if_pos, if_neg, aStore, frz, AV.flat, ↓reduceIte, ne_eq, reduceCtorEq, ByteArray.size, e])
    · have d0 : decide ((0 : Int) < (x : Int)) = true := decide_eq_true (by omega)
      have hw : wt x = 32768 / 2 ^ x := by simp [wt, c0]
      have hw2 := wt_le (n := x)
      repeat (first | refine wA ?_ | refine wB ?_ | refine wC rfl ?_ | refine wD rfl ?_ | refine wE ?_ | refine wF (by omega) ?_ | ((first | refine wG ?_ | refine wH ?_ | refine wI ?_ | refine wJ ?_ | refine wK ?_ | refine wL ?_); simp (disch := omega) only [wP, wZ, undef, seval, if_pos, if_neg, aStore, frz, AV.flat, ↓reduceIte, ne_eq, reduceCtorEq, ByteArray.size, iR, ← hx, ← hy, d0]))
      refine SWp.loop (α := Nat) (fun j => mk 32 0 [(0, .sl nl none (l.map nA)), (3, int (y : Nat)), (4, int k), (5, int (32768 / 2 ^ j : Nat)), (6, int j)] [])
        (fun j => j ≤ x) (fun j => x - j) 0 (Nat.zero_le _) (le_mk rfl ?_ ?_ ?_) ?_
      · exact Nat.le_refl _
      iterate 2 (case _ => simp (disch := omega) only [wP, wZ, undef, seval, if_pos, if_neg, aStore, frz, AV.flat, ↓reduceIte, ne_eq, reduceCtorEq, ByteArray.size, Nat.pow_zero, ← hy])
      rintro j hj -
      have hz2 : 32768 / 2 ^ j ≤ 32768 := Nat.div_le_self _ _
      have hz3 : 32768 / 2 ^ j / 2 = 32768 / 2 ^ (j + 1) := by rw [Nat.div_div_eq_div_mul, Nat.pow_succ]
      obtain ⟨z, hz⟩ : ∃ z, z = 32768 / 2 ^ j := ⟨_, rfl⟩
      rw [← hz] at hz2 hz3 ⊢
      repeat (first | refine wA ?_ | refine wB ?_ | refine wC rfl ?_ | refine wD rfl ?_ | refine wE ?_ | refine wF (by omega) ?_ | ((first | refine wG ?_ | refine wH ?_ | refine wI ?_ | refine wJ ?_ | refine wK ?_ | refine wL ?_); simp (disch := omega) only [wP, wZ, undef, seval, if_pos, if_neg, aStore, frz, AV.flat, ↓reduceIte, ne_eq, reduceCtorEq, ByteArray.size, iR, ← hx]))
      refine SWp.cond rfl (fun h => ?_) (fun h => ?_)
      · simp only [decide_eq_true_eq] at h
        repeat (first | refine wA ?_ | refine wB ?_ | refine wC rfl ?_ | refine wD rfl ?_ | refine wE ?_ | refine wF (by omega) ?_ | ((first | refine wG ?_ | refine wH ?_ | refine wI ?_ | refine wJ ?_ | refine wK ?_ | refine wL ?_); simp (disch := omega) only [wP, wZ, undef, seval, if_pos, if_neg, aStore, frz, AV.flat, ↓reduceIte, ne_eq, reduceCtorEq, ByteArray.size]))
        refine At.of (j + 1) (by omega) (by omega) rfl rfl (Nat.le_refl _) ?_ ?_
        iterate 2 (case _ => simp (disch := omega) only [wP, wZ, undef, seval, if_pos, if_neg, aStore, frz, AV.flat, ↓reduceIte, ne_eq, reduceCtorEq, ByteArray.size, hz3])
      · simp only [decide_eq_false_iff_not] at h
        obtain rfl : j = x := by omega
        rw [← hz] at hw
        rw [hw] at hw2 hs
        repeat (first | refine wA ?_ | refine wB ?_ | refine wC rfl ?_ | refine wD rfl ?_ | refine wE ?_ | refine wF (by omega) ?_ | ((first | refine wG ?_ | refine wH ?_ | refine wI ?_ | refine wJ ?_ | refine wK ?_ | refine wL ?_); simp (disch := omega) only [wP, wZ, undef, seval, if_pos, if_neg, aStore, frz, AV.flat, ↓reduceIte, ne_eq, reduceCtorEq, ByteArray.size]))
        refine At.of (k + 1) (by omega) (by omega) rfl rfl (Nat.le_refl _) ?_ ?_
        iterate 2 (case _ => simp (disch := omega) only [wP, wZ, undef, seval, if_pos, if_neg, aStore, frz, AV.flat, ↓reduceIte, ne_eq, reduceCtorEq, ByteArray.size, hs])
  · simp only [decide_eq_false_iff_not] at h
    obtain rfl : k = l.length := by omega
    repeat (first | refine wA ?_ | refine wB ?_ | refine wC rfl ?_ | refine wD rfl ?_ | refine wE ?_ | refine wF (by omega) ?_ | ((first | refine wG ?_ | refine wH ?_ | refine wI ?_ | refine wJ ?_ | refine wK ?_ | refine wL ?_); simp (disch := omega) only [wP, wZ, undef, seval, if_pos, if_neg, aStore, frz, AV.flat, ↓reduceIte, ne_eq, reduceCtorEq, ByteArray.size, List.take_length]))
def okLen (x : Int) : Bool := decide (0 ≤ x ∧ x ≤ 15)
def chk (l : List Int) : Nat := if 320 < l.length then 4 else if l.all okLen = false then 1 else if 32768 < kraft (l.map Int.toNat) then 3 else 0
theorem all_takeI {l : List Int} {p : Int → Bool} {k : Nat} (hk : k < l.length) (h : (l.take k).all p = true) : (l.take (k + 1)).all p = p (l.getD k 0) := by
  rw [snocD (d := 0) hk, List.all_append, h]; simp
theorem all_notI {l : List Int} {p : Int → Bool} {k : Nat} (hk : k < l.length) (h : p (l.getD k 0) = false) : l.all p = false := by
  rw [List.all_eq_false]
  refine ⟨l[k], List.getElem_mem hk, ?_⟩
  simp [List.getD, List.getElem?_eq_getElem hk] at h
  simp [h]
theorem okLens {l : List Int} (h : l.all okLen = true) : l.map int = (l.map Int.toNat).map nA ∧ ∀ x ∈ l.map Int.toNat, x ≤ 15 := by
  have h2 : ∀ x ∈ l, 0 ≤ x ∧ x ≤ 15 := fun x hx => of_decide_eq_true (List.all_eq_true.1 h x hx)
  constructor
  · rw [List.map_map]
    refine List.map_congr_left fun x hx => ?_
    have := h2 x hx
    show AV.sc (.int .i64 x) = AV.sc (.int .i64 ((x.toNat : Nat) : Int))
    rw [Int.toNat_of_nonneg this.1]
  · intro y hy
    obtain ⟨x, hx, rfl⟩ := List.mem_map.1 hy
    have := h2 x hx
    omega
set_option maxRecDepth 100000 in
theorem huff_Check_c [Tabs Try.prog] (nl : Bool) (l : List Int) (hl : l.length ≤ 1000) : Con Try.prog n_huff_Check [.sl nl none (l.map int)] (int (chk l : Nat)) := by
  refine Con.of' mix Try.func18 rfl Try.ntmps18 e_huff_Check r_huff_Check (by simp) (by simp only [AV.free, AV.free.freeL, free_zA, Bool.and_self]) rfl ?_
  unfold s_huff_Check
  by_cases c1 : 320 < l.length
  · have d1 : decide ((320 : Int) < (l.length : Int)) = true := decide_eq_true (by omega)
    have hc : chk l = 4 := if_pos c1
    repeat (first | refine wA ?_ | refine wB ?_ | refine wC rfl ?_ | refine wD rfl ?_ | refine wE ?_ | refine wF (by omega) ?_ | ((first | refine wG ?_ | refine wH ?_ | refine wI ?_ | refine wJ ?_ | refine wK ?_ | refine wL ?_); simp (disch := omega) only [wP, wZ, undef, seval, if_pos, if_neg, aStore, frz, AV.flat, ↓reduceIte, ne_eq, reduceCtorEq, ByteArray.size, d1, hc]))
  have d1 : decide ((320 : Int) < (l.length : Int)) = false := decide_eq_false (by omega)
  repeat (first | refine wA ?_ | refine wB ?_ | refine wC rfl ?_ | refine wD rfl ?_ | refine wE ?_ | refine wF (by omega) ?_ | ((first | refine wG ?_ | refine wH ?_ | refine wI ?_ | refine wJ ?_ | refine wK ?_ | refine wL ?_); simp (disch := omega) only [wP, wZ, undef, seval, if_pos, if_neg, aStore, frz, AV.flat, ↓reduceIte, ne_eq, reduceCtorEq, ByteArray.size, d1]))
  refine SWp.loop (α := Nat) (fun k => mk 24 0 [(0, .sl nl none (l.map int)), (8, .sl nl none (l.map int)), (9, int l.length), (10, int k)] [])
    (fun k => k ≤ l.length ∧ (l.take k).all okLen = true) (fun k => l.length - k) 0 ⟨Nat.zero_le _, by simp⟩ (le_mk rfl ?_ ?_ ?_) ?_
  · exact Nat.le_refl _
  iterate 2 (case _ => simp (disch := omega) only [wP, wZ, undef, seval, if_pos, if_neg, aStore, frz, AV.flat, ↓reduceIte, ne_eq, reduceCtorEq, ByteArray.size])
  rintro k ⟨hk, ha⟩ -
  repeat (first | refine wA ?_ | refine wB ?_ | refine wC rfl ?_ | refine wD rfl ?_ | refine wE ?_ | refine wF (by omega) ?_ | ((first | refine wG ?_ | refine wH ?_ | refine wI ?_ | refine wJ ?_ | refine wK ?_ | refine wL ?_); simp (disch := omega) only [wP, wZ, undef, seval, if_pos, if_neg, aStore, frz, AV.flat, ↓reduceIte, ne_eq, reduceCtorEq, ByteArray.size]))
  refine SWp.cond rfl (fun h => ?_) (fun h => ?_)
  · simp only [decide_eq_true_eq] at h
    have hkl : k < l.length := by omega
    have hs := all_takeI hkl ha
    have hbad := all_notI (p := okLen) hkl
    obtain ⟨x, hx⟩ : ∃ x, x = l.getD k 0 := ⟨_, rfl⟩
    rw [← hx] at hs hbad
    by_cases c2 : x < 0
    · have d2 := decide_eq_true c2
      have hc : chk l = 1 := by unfold chk; rw [if_neg c1, if_pos (hbad (decide_eq_false (by omega)))]
      repeat (first | refine wA ?_ | refine wB ?_ | refine wC rfl ?_ | refine wD rfl ?_ | refine wE ?_ | refine wF (by omega) ?_ | ((first | refine wG ?_ | refine wH ?_ | refine wI ?_ | refine wJ ?_ | refine wK ?_ | refine wL ?_); simp (disch := omega) only [wP, wZ, undef, seval, if_pos, if_neg, aStore, frz, AV.flat, ↓reduceIte, ne_eq, reduceCtorEq, ByteArray.size, iR, ← hx, d2, hc]))
    have d2 := decide_eq_false c2
    by_cases c3 : 15 < x
    · have d3 := decide_eq_true c3
      have hc : chk l = 1 := by unfold chk; rw [if_neg c1, if_pos (hbad (decide_eq_false (by omega)))]
      repeat (first | refine wA ?_ | refine wB ?_ | refine wC rfl ?_ | refine wD rfl ?_ | refine wE ?_ | refine wF (by omega) ?_ | ((first | refine wG ?_ | refine wH ?_ | refine wI ?_ | refine wJ ?_ | refine wK ?_ | refine wL ?_); simp (disch := omega) only [wP, wZ, undef, seval, if_pos, if_neg, aStore, frz, AV.flat, ↓reduceIte, ne_eq, reduceCtorEq, ByteArray.size, iR, ← hx, d2, d3, hc]))
    have d3 := decide_eq_false c3
    repeat (first | refine wA ?_ | refine wB ?_ | refine wC rfl ?_ | refine wD rfl ?_ | refine wE ?_ | refine wF (by omega) ?_ | ((first | refine wG ?_ | refine wH ?_ | refine wI ?_ | refine wJ ?_ | refine wK ?_ | refine wL ?_); simp (disch := omega) only [wP, wZ, undef, seval, if_pos, if_neg, aStore, frz, AV.flat, ↓reduceIte, ne_eq, reduceCtorEq, ByteArray.size, iR, ← hx, d2, d3]))
    refine At.of (k + 1) ⟨by omega, by rw [hs]; exact decide_eq_true (by omega)⟩ (by omega) rfl rfl (Nat.le_refl _) ?_ ?_
    iterate 2 (case _ => simp (disch := omega) only [wP, wZ, undef, seval, if_pos, if_neg, aStore, frz, AV.flat, ↓reduceIte, ne_eq, reduceCtorEq, ByteArray.size])
  · simp only [decide_eq_false_iff_not] at h
    obtain rfl : k = l.length := by omega
    rw [List.take_length] at ha
    obtain ⟨hm, h15⟩ := okLens ha
    have ht := huff_taken_c nl (l.map Int.toNat) (by rw [List.length_map]; exact hl) h15
    rw [← hm] at ht
    repeat (first | refine wA ?_ | refine wB ?_ | refine wC rfl ?_ | refine wD rfl ?_ | refine wE ?_ | refine wF (by omega) ?_ | ((first | refine wG ?_ | refine wH ?_ | refine wI ?_ | refine wJ ?_ | refine wK ?_ | refine wL ?_); simp (disch := omega) only [wP, wZ, undef, seval, if_pos, if_neg, aStore, frz, AV.flat, ↓reduceIte, ne_eq, reduceCtorEq, ByteArray.size]))
    refine goC_p _ (.inl ⟨by simp only [AV.free, AV.free.freeL, free_zA, Bool.and_self], ht⟩) ?_
    by_cases c4 : 32768 < kraft (l.map Int.toNat)
    · have d4 : decide ((32768 : Int) < (kraft (l.map Int.toNat) : Nat)) = true := decide_eq_true (by omega)
      have hc : chk l = 3 := by unfold chk; rw [if_neg c1, if_neg (by rw [ha]; simp), if_pos c4]
      repeat (first | refine wA ?_ | refine wB ?_ | refine wC rfl ?_ | refine wD rfl ?_ | refine wE ?_ | refine wF (by omega) ?_ | ((first | refine wG ?_ | refine wH ?_ | refine wI ?_ | refine wJ ?_ | refine wK ?_ | refine wL ?_); simp (disch := omega) only [wP, wZ, undef, seval, if_pos, if_neg, aStore, frz, AV.flat, ↓reduceIte, ne_eq, reduceCtorEq, ByteArray.size, d4, hc]))
    · have d4 : decide ((32768 : Int) < (kraft (l.map Int.toNat) : Nat)) = false := decide_eq_false (by omega)
      have hc : chk l = 0 := by unfold chk; rw [if_neg c1, if_neg (by rw [ha]; simp), if_neg c4]
      repeat (first | refine wA ?_ | refine wB ?_ | refine wC rfl ?_ | refine wD rfl ?_ | refine wE ?_ | refine wF (by omega) ?_ | ((first | refine wG ?_ | refine wH ?_ | refine wI ?_ | refine wJ ?_ | refine wK ?_ | refine wL ?_); simp (disch := omega) only [wP, wZ, undef, seval, if_pos, if_neg, aStore, frz, AV.flat, ↓reduceIte, ne_eq, reduceCtorEq, ByteArray.size, d4, hc]))
set_option maxRecDepth 100000 in
theorem ref_Check_c [Tabs Try.prog] (nl : Bool) (l : List Int) (hl : l.length ≤ 1000) : Con Try.prog n_drayageref03_Check [.sl nl none (l.map int)] (int (chk l : Nat)) := by
  refine Con.of' mix Try.func35 rfl Try.ntmps35 e_drayageref03_Check r_drayageref03_Check (by simp) (by simp only [AV.free, AV.free.freeL, free_zA, Bool.and_self]) rfl ?_
  unfold s_drayageref03_Check
  by_cases c1 : 320 < l.length
  · have d1 : decide ((320 : Int) < (l.length : Int)) = true := decide_eq_true (by omega)
    have hc : chk l = 4 := if_pos c1
    repeat (first | refine wA ?_ | refine wB ?_ | refine wC rfl ?_ | refine wD rfl ?_ | refine wE ?_ | refine wF (by omega) ?_ | ((first | refine wG ?_ | refine wH ?_ | refine wI ?_ | refine wJ ?_ | refine wK ?_ | refine wL ?_); simp (disch := omega) only [wP, wZ, undef, seval, if_pos, if_neg, aStore, frz, AV.flat, ↓reduceIte, ne_eq, reduceCtorEq, ByteArray.size, d1, hc]))
  have d1 : decide ((320 : Int) < (l.length : Int)) = false := decide_eq_false (by omega)
  repeat (first | refine wA ?_ | refine wB ?_ | refine wC rfl ?_ | refine wD rfl ?_ | refine wE ?_ | refine wF (by omega) ?_ | ((first | refine wG ?_ | refine wH ?_ | refine wI ?_ | refine wJ ?_ | refine wK ?_ | refine wL ?_); simp (disch := omega) only [wP, wZ, undef, seval, if_pos, if_neg, aStore, frz, AV.flat, ↓reduceIte, ne_eq, reduceCtorEq, ByteArray.size, d1]))
  refine SWp.loop (α := Nat) (fun k => mk 28 0 [(0, .sl nl none (l.map int)), (3, int k)] [])
    (fun k => k ≤ l.length ∧ (l.take k).all okLen = true) (fun k => l.length - k) 0 ⟨Nat.zero_le _, by simp⟩ (le_mk rfl ?_ ?_ ?_) ?_
  · exact Nat.le_refl _
  iterate 2 (case _ => simp (disch := omega) only [wP, wZ, undef, seval, if_pos, if_neg, aStore, frz, AV.flat, ↓reduceIte, ne_eq, reduceCtorEq, ByteArray.size])
  rintro k ⟨hk, ha⟩ -
  repeat (first | refine wA ?_ | refine wB ?_ | refine wC rfl ?_ | refine wD rfl ?_ | refine wE ?_ | refine wF (by omega) ?_ | ((first | refine wG ?_ | refine wH ?_ | refine wI ?_ | refine wJ ?_ | refine wK ?_ | refine wL ?_); simp (disch := omega) only [wP, wZ, undef, seval, if_pos, if_neg, aStore, frz, AV.flat, ↓reduceIte, ne_eq, reduceCtorEq, ByteArray.size]))
  refine SWp.cond rfl (fun h => ?_) (fun h => ?_)
  · simp only [decide_eq_true_eq] at h
    have hkl : k < l.length := by omega
    have hs := all_takeI hkl ha
    have hbad := all_notI (p := okLen) hkl
    obtain ⟨x, hx⟩ : ∃ x, x = l.getD k 0 := ⟨_, rfl⟩
    rw [← hx] at hs hbad
    by_cases c2 : x < 0
    · have d2 := decide_eq_true c2
      have hc : chk l = 1 := by unfold chk; rw [if_neg c1, if_pos (hbad (decide_eq_false (by omega)))]
      repeat (first | refine wA ?_ | refine wB ?_ | refine wC rfl ?_ | refine wD rfl ?_ | refine wE ?_ | refine wF (by omega) ?_ | ((first | refine wG ?_ | refine wH ?_ | refine wI ?_ | refine wJ ?_ | refine wK ?_ | refine wL ?_); simp (disch := omega) only [wP, wZ, undef, seval, if_pos, if_neg, aStore, frz, AV.flat, ↓reduceIte, ne_eq, reduceCtorEq, ByteArray.size, iR, ← hx, d2, hc]))
    have d2 := decide_eq_false c2
    by_cases c3 : 15 < x
    · have d3 := decide_eq_true c3
      have hc : chk l = 1 := by unfold chk; rw [if_neg c1, if_pos (hbad (decide_eq_false (by omega)))]
      repeat (first | refine wA ?_ | refine wB ?_ | refine wC rfl ?_ | refine wD rfl ?_ | refine wE ?_ | refine wF (by omega) ?_ | ((first | refine wG ?_ | refine wH ?_ | refine wI ?_ | refine wJ ?_ | refine wK ?_ | refine wL ?_); simp (disch := omega) only [wP, wZ, undef, seval, if_pos, if_neg, aStore, frz, AV.flat, ↓reduceIte, ne_eq, reduceCtorEq, ByteArray.size, iR, ← hx, d2, d3, hc]))
    have d3 := decide_eq_false c3
    repeat (first | refine wA ?_ | refine wB ?_ | refine wC rfl ?_ | refine wD rfl ?_ | refine wE ?_ | refine wF (by omega) ?_ | ((first | refine wG ?_ | refine wH ?_ | refine wI ?_ | refine wJ ?_ | refine wK ?_ | refine wL ?_); simp (disch := omega) only [wP, wZ, undef, seval, if_pos, if_neg, aStore, frz, AV.flat, ↓reduceIte, ne_eq, reduceCtorEq, ByteArray.size, iR, ← hx, d2, d3]))
    refine At.of (k + 1) ⟨by omega, by rw [hs]; exact decide_eq_true (by omega)⟩ (by omega) rfl rfl (Nat.le_refl _) ?_ ?_
    iterate 2 (case _ => simp (disch := omega) only [wP, wZ, undef, seval, if_pos, if_neg, aStore, frz, AV.flat, ↓reduceIte, ne_eq, reduceCtorEq, ByteArray.size])
  · simp only [decide_eq_false_iff_not] at h
    obtain rfl : k = l.length := by omega
    rw [List.take_length] at ha
    obtain ⟨hm, h15⟩ := okLens ha
    have ht := ref_share_c nl (l.map Int.toNat) (by rw [List.length_map]; exact hl) h15
    rw [← hm] at ht
    repeat (first | refine wA ?_ | refine wB ?_ | refine wC rfl ?_ | refine wD rfl ?_ | refine wE ?_ | refine wF (by omega) ?_ | ((first | refine wG ?_ | refine wH ?_ | refine wI ?_ | refine wJ ?_ | refine wK ?_ | refine wL ?_); simp (disch := omega) only [wP, wZ, undef, seval, if_pos, if_neg, aStore, frz, AV.flat, ↓reduceIte, ne_eq, reduceCtorEq, ByteArray.size]))
    refine goC_p _ (.inl ⟨by simp only [AV.free, AV.free.freeL, free_zA, Bool.and_self], ht⟩) ?_
    by_cases c4 : 32768 < kraft (l.map Int.toNat)
    · have d4 : decide ((32768 : Int) < (kraft (l.map Int.toNat) : Nat)) = true := decide_eq_true (by omega)
      have hc : chk l = 3 := by unfold chk; rw [if_neg c1, if_neg (by rw [ha]; simp), if_pos c4]
      repeat (first | refine wA ?_ | refine wB ?_ | refine wC rfl ?_ | refine wD rfl ?_ | refine wE ?_ | refine wF (by omega) ?_ | ((first | refine wG ?_ | refine wH ?_ | refine wI ?_ | refine wJ ?_ | refine wK ?_ | refine wL ?_); simp (disch := omega) only [wP, wZ, undef, seval, if_pos, if_neg, aStore, frz, AV.flat, ↓reduceIte, ne_eq, reduceCtorEq, ByteArray.size, d4, hc]))
    · have d4 : decide ((32768 : Int) < (kraft (l.map Int.toNat) : Nat)) = false := decide_eq_false (by omega)
      have hc : chk l = 0 := by unfold chk; rw [if_neg c1, if_neg (by rw [ha]; simp), if_neg c4]
      repeat (first | refine wA ?_ | refine wB ?_ | refine wC rfl ?_ | refine wD rfl ?_ | refine wE ?_ | refine wF (by omega) ?_ | ((first | refine wG ?_ | refine wH ?_ | refine wI ?_ | refine wJ ?_ | refine wK ?_ | refine wL ?_); simp (disch := omega) only [wP, wZ, undef, seval, if_pos, if_neg, aStore, frz, AV.flat, ↓reduceIte, ne_eq, reduceCtorEq, ByteArray.size, d4, hc]))
theorem chk_ok {l : List Int} (h : chk l = 0) : l.length ≤ 320 ∧ l.all okLen = true ∧ kraft (l.map Int.toNat) ≤ 32768 := by
  unfold chk at h
  split at h
  · omega
  · split at h
    · omega
    · rename_i h1 h2
      split at h
      · omega
      · exact ⟨by omega, by simpa using h2, by omega⟩
def fullB (l : List Int) : Bool := decide (chk l = 0) && decide (kraft (l.map Int.toNat) = 32768)
theorem ref_Full_c [Tabs Try.prog] (nl : Bool) (l : List Int) (hl : l.length ≤ 1000) : Con Try.prog n_drayageref03_Full [.sl nl none (l.map int)] (boo (fullB l)) := by
  refine Con.of' mix Try.func20 rfl Try.ntmps20 e_drayageref03_Full r_drayageref03_Full (by simp) (by simp only [AV.free, AV.free.freeL, free_zA, Bool.and_self]) rfl ?_
  unfold s_drayageref03_Full
  have hf : AV.free.freeL [.sl nl none (l.map int)] = true := by simp only [AV.free, AV.free.freeL, free_zA, Bool.and_self]
  repeat (first | refine wA ?_ | refine wB ?_ | refine wC rfl ?_ | refine wD rfl ?_ | refine wE ?_ | refine wF (by omega) ?_ | ((first | refine wG ?_ | refine wH ?_ | refine wI ?_ | refine wJ ?_ | refine wK ?_ | refine wL ?_); simp (disch := omega) only [wP, wZ, undef, seval, if_pos, if_neg, aStore, frz, AV.flat, ↓reduceIte, ne_eq, reduceCtorEq, ByteArray.size]))
  refine goC_p _ (.inl ⟨hf, ref_Check_c nl l hl⟩) ?_
  by_cases c : chk l = 0
  · have d : decide (((chk l : Nat) : Int) = 0) = true := decide_eq_true (by omega)
    obtain ⟨h1, h2, h3⟩ := chk_ok c
    obtain ⟨hm, h15⟩ := okLens h2
    have ht := ref_share_c nl (l.map Int.toNat) (by rw [List.length_map]; exact hl) h15
    rw [← hm] at ht
    have hb : fullB l = decide (kraft (l.map Int.toNat) = 32768) := by simp [fullB, c]
    have hd : decide (((kraft (l.map Int.toNat) : Nat) : Int) = 32768) = decide (kraft (l.map Int.toNat) = 32768) := decide_eq_decide.2 (by omega)
    repeat (first | refine wA ?_ | refine wB ?_ | refine wC rfl ?_ | refine wD rfl ?_ | refine wE ?_ | refine wF (by omega) ?_ | ((first | refine wG ?_ | refine wH ?_ | refine wI ?_ | refine wJ ?_ | refine wK ?_ | refine wL ?_); simp (disch := omega) only [wP, wZ, undef, seval, if_pos, if_neg, aStore, frz, AV.flat, ↓reduceIte, ne_eq, reduceCtorEq, ByteArray.size, d]))
    refine goC_p _ (.inl ⟨hf, ht⟩) ?_
    repeat (first | refine wA ?_ | refine wB ?_ | refine wC rfl ?_ | refine wD rfl ?_ | refine wE ?_ | refine wF (by omega) ?_ | ((first | refine wG ?_ | refine wH ?_ | refine wI ?_ | refine wJ ?_ | refine wK ?_ | refine wL ?_); simp (disch := omega) only [wP, wZ, undef, seval, if_pos, if_neg, aStore, frz, AV.flat, ↓reduceIte, ne_eq, reduceCtorEq, ByteArray.size, hb, hd]))
  · have d : decide (((chk l : Nat) : Int) = 0) = false := decide_eq_false (by omega)
    have hb : fullB l = false := by simp [fullB, c]
    repeat (first | refine wA ?_ | refine wB ?_ | refine wC rfl ?_ | refine wD rfl ?_ | refine wE ?_ | refine wF (by omega) ?_ | ((first | refine wG ?_ | refine wH ?_ | refine wI ?_ | refine wJ ?_ | refine wK ?_ | refine wL ?_); simp (disch := omega) only [wP, wZ, undef, seval, if_pos, if_neg, aStore, frz, AV.flat, ↓reduceIte, ne_eq, reduceCtorEq, ByteArray.size, d, hb]))
end Go.Proofs.Ytbmppmdklappiaa.Aw
namespace Go.Proofs.Ytbmppmdklappiaa.Aw
open Go
set_option linter.unusedSimpArgs false
set_option linter.unusedVariables false
def r16 (f : Nat → Nat) : List Nat := (List.range 16).map f
theorem length_r16 {f : Nat → Nat} : (r16 f).length = 16 := by simp [r16]
theorem r16_get {f : Nat → Nat} {k : Nat} (h : k < 16) : (r16 f).getD k 0 = f k := by simp [r16, List.getD, h]
theorem r16_set {f g : Nat → Nat} {k x : Nat} (h : ∀ i, i < 16 → g i = if i = k then x else f i) : (r16 f).set k x = r16 g := by
  apply List.ext_getElem?
  intro i
  rw [List.getElem?_set, length_r16]
  by_cases hi : i < 16
  · have h1 : (r16 f)[i]? = some (f i) := by simp [r16, hi]
    have h2 : (r16 g)[i]? = some (g i) := by simp [r16, hi]
    rw [h1, h2, h i hi]
    by_cases e : k = i
    · subst e; simp [hi]
    · rw [if_neg e, if_neg (fun h => e h.symm)]
  · have h1 : (r16 f)[i]? = none := List.getElem?_eq_none (by rw [length_r16]; omega)
    have h2 : (r16 g)[i]? = none := List.getElem?_eq_none (by rw [length_r16]; omega)
    rw [h1, h2]
    split
    · rename_i e; subst e; rw [if_neg hi]
    · rfl
theorem r16_congr {f g : Nat → Nat} (h : ∀ i, i < 16 → f i = g i) : r16 f = r16 g := List.map_congr_left fun i hi => h i (List.mem_range.1 hi)
theorem count_snoc {l : List Nat} {k n : Nat} (h : k < l.length) : (l.take (k + 1)).count n = (l.take k).count n + (if n = l.getD k 0 then 1 else 0) := by
  rw [snocD (d := 0) h, List.count_append]
  congr 1
  by_cases e : n = l.getD k 0
  · rw [if_pos e, ← e]; simp
  · rw [if_neg e, List.count_singleton]; simp; exact fun h => e h.symm
theorem count_take_le {l : List Nat} {k n : Nat} : (l.take k).count n ≤ l.length := Nat.le_trans List.count_le_length (by rw [List.length_take]; omega)
def cn (l : List Nat) (n : Nat) : Nat := if n = 0 then 0 else l.count n
def fr (l : List Nat) : Nat → Nat
  | 0 => 0
  | n + 1 => 2 * (fr l n + cn l n)
theorem cn_le {l : List Nat} {n : Nat} : cn l n ≤ l.length := by
  unfold cn; split
  · omega
  · exact List.count_le_length
theorem fr_le {l : List Nat} (hl : l.length ≤ 320) : ∀ {n : Nat}, fr l n + 640 ≤ 640 * 2 ^ n
  | 0 => by simp [fr]
  | n + 1 => by
    have h1 := fr_le hl (n := n)
    have h2 := cn_le (l := l) (n := n)
    simp only [fr, Nat.pow_succ]; omega
theorem fr_lt {l : List Nat} (hl : l.length ≤ 320) {n : Nat} (hn : n ≤ 15) : fr l n ≤ 20971520 := by
  have h1 := fr_le hl (n := n)
  have h2 : 2 ^ n ≤ 32768 := two_pow_le (n := n) (m := 15) hn
  omega
set_option maxRecDepth 100000 in
theorem huff_firstRows_c [Tabs Try.prog] (nl : Bool) (l : List Nat) (hl : l.length ≤ 320) (h15 : ∀ x ∈ l, x ≤ 15) : Con Try.prog n_huff_firstRows [.sl nl none (l.map nA)] (.agg ((r16 (fr l)).map nA)) := by
  refine Con.of' mix Try.func34 rfl Try.ntmps34 e_huff_firstRows r_huff_firstRows (by simp) (by simp only [AV.free, AV.free.freeL, free_nA, Bool.and_self]) (by simp only [AV.free, free_nA]) ?_
  unfold s_huff_firstRows
  obtain ⟨Z, hZ⟩ : ∃ Z, Z = r16 fun _ => 0 := ⟨_, rfl⟩
  have hZl : Z.length = 16 := by rw [hZ, length_r16]
  have hz : (List.replicate 16 (Value.int .i64 0)).map AV.sc = Z.map nA := by rw [hZ]; rfl
  have hZd : Z.drop 16 = [] := List.drop_of_length_le (by omega)
  repeat (first | refine wA ?_ | refine wB ?_ | refine wC rfl ?_ | refine wD rfl ?_ | refine wE ?_ | refine wF (by omega) ?_ | ((first | refine wG ?_ | refine wH ?_ | refine wI ?_ | refine wJ ?_ | refine wK ?_ | refine wL ?_); simp (disch := omega) only [wP, wZ, undef, UInt8.reduceToNat, Nat.reduceOr, Nat.reduceAnd, Nat.reduceXor, Nat.reduceDiv, if_pos, if_neg, aStore, frz, AV.flat, ↓reduceIte, ne_eq, reduceCtorEq, Int.reduceToNat, Nat.reduceEqDiff, Nat.reduceAdd, Nat.reduceSub, Nat.reduceMul, Int.reduceAdd, Int.reduceMul, Int.reduceSub, Int.reduceLT, Int.reduceLE, Int.reduceEq, Int.reduceNe, Nat.reduceLeDiff, Nat.reduceLT, Int.reduceNeg, Nat.reducePow, Nat.reduceMod, ByteArray.size, hz]))
  refine SWp.loop (α := Nat) (fun k => mk 37 2 [(2, .op 2 0 0), (3, .op 3 1 0), (8, .sl nl none (l.map nA)), (9, int l.length), (10, int k)] [(2, 0, .row false (Z.map nA)), (3, 1, .row false ((r16 fun n => (l.take k).count n).map nA))])
    (fun k => k ≤ l.length) (fun k => l.length - k) 0 (Nat.zero_le _) (le_mk rfl ?_ ?_ ?_) ?_
  · exact Nat.le_refl _
  iterate 2 (case _ => simp (disch := omega) only [wP, wZ, undef, UInt8.reduceToNat, Nat.reduceOr, Nat.reduceAnd, Nat.reduceXor, Nat.reduceDiv, if_pos, if_neg, aStore, frz, AV.flat, ↓reduceIte, ne_eq, reduceCtorEq, Int.reduceToNat, Nat.reduceEqDiff, Nat.reduceAdd, Nat.reduceSub, Nat.reduceMul, Int.reduceAdd, Int.reduceMul, Int.reduceSub, Int.reduceLT, Int.reduceLE, Int.reduceEq, Int.reduceNe, Nat.reduceLeDiff, Nat.reduceLT, Int.reduceNeg, Nat.reducePow, Nat.reduceMod, ByteArray.size, List.take_zero, List.count_nil, hZ])
  rintro k hk -
  repeat (first | refine wA ?_ | refine wB ?_ | refine wC rfl ?_ | refine wD rfl ?_ | refine wE ?_ | refine wF (by omega) ?_ | ((first | refine wG ?_ | refine wH ?_ | refine wI ?_ | refine wJ ?_ | refine wK ?_ | refine wL ?_); simp (disch := omega) only [wP, wZ, undef, UInt8.reduceToNat, Nat.reduceOr, Nat.reduceAnd, Nat.reduceXor, Nat.reduceDiv, if_pos, if_neg, aStore, frz, AV.flat, ↓reduceIte, ne_eq, reduceCtorEq, Int.reduceToNat, Nat.reduceEqDiff, Nat.reduceAdd, Nat.reduceSub, Nat.reduceMul, Int.reduceAdd, Int.reduceMul, Int.reduceSub, Int.reduceLT, Int.reduceLE, Int.reduceEq, Int.reduceNe, Nat.reduceLeDiff, Nat.reduceLT, Int.reduceNeg, Nat.reducePow, Nat.reduceMod, ByteArray.size]))
  refine SWp.cond rfl (fun h => ?_) (fun h => ?_)
  · simp only [decide_eq_true_eq] at h
    have hkl : k < l.length := by omega
    have hx15 : l.getD k 0 ≤ 15 := by
      have : l.getD k 0 = l[k] := by simp [List.getD, List.getElem?_eq_getElem hkl]
      rw [this]; exact h15 _ (List.getElem_mem hkl)
    have hcs : ∀ n, (l.take (k + 1)).count n = (l.take k).count n + (if n = l.getD k 0 then 1 else 0) := fun n => count_snoc hkl
    obtain ⟨x, hx⟩ : ∃ x, x = l.getD k 0 := ⟨_, rfl⟩
    rw [← hx] at hx15 hcs
    have hg := r16_get (f := fun n => (l.take k).count n) (k := x) (by omega)
    have hcl := count_take_le (l := l) (k := k) (n := x)
    have hset := r16_set (f := fun n => (l.take k).count n) (g := fun n => (l.take (k + 1)).count n) (k := x) (x := (l.take k).count x + 1) (fun i hi => by
      show (l.take (k + 1)).count i = _
      rw [hcs]
      by_cases e : i = x
      · subst e; simp
      · simp [e])
    obtain ⟨S, hS⟩ : ∃ S, S = r16 fun n => (l.take k).count n := ⟨_, rfl⟩
    have hSl : S.length = 16 := by rw [hS, length_r16]
    obtain ⟨y, hy⟩ : ∃ y, y = (l.take k).count x := ⟨_, rfl⟩
    rw [← hS] at hset hg ⊢
    simp only [← hy] at hg hset hcl
    have hsp := splice_nA (l := S) (k := x) (x := y + 1) (by omega)
    rw [hset] at hsp
    repeat (first | refine wA ?_ | refine wB ?_ | refine wC rfl ?_ | refine wD rfl ?_ | refine wE ?_ | refine wF (by omega) ?_ | ((first | refine wG ?_ | refine wH ?_ | refine wI ?_ | refine wJ ?_ | refine wK ?_ | refine wL ?_); simp (disch := omega) only [wP, wZ, undef, UInt8.reduceToNat, Nat.reduceOr, Nat.reduceAnd, Nat.reduceXor, Nat.reduceDiv, if_pos, if_neg, aStore, frz, AV.flat, ↓reduceIte, ne_eq, reduceCtorEq, Int.reduceToNat, Nat.reduceEqDiff, Nat.reduceAdd, Nat.reduceSub, Nat.reduceMul, Int.reduceAdd, Int.reduceMul, Int.reduceSub, Int.reduceLT, Int.reduceLE, Int.reduceEq, Int.reduceNe, Nat.reduceLeDiff, Nat.reduceLT, Int.reduceNeg, Nat.reducePow, Nat.reduceMod, ByteArray.size, iR, ← hx, hg]))
    refine At.of (k + 1) (by omega) (by omega) rfl rfl (Nat.le_refl _) ?_ ?_
    · simp (disch := omega) only [wP, wZ, undef, UInt8.reduceToNat, Nat.reduceOr, Nat.reduceAnd, Nat.reduceXor, Nat.reduceDiv, if_pos, if_neg, aStore, frz, AV.flat, ↓reduceIte, ne_eq, reduceCtorEq, Int.reduceToNat, Nat.reduceEqDiff, Nat.reduceAdd, Nat.reduceSub, Nat.reduceMul, Int.reduceAdd, Int.reduceMul, Int.reduceSub, Int.reduceLT, Int.reduceLE, Int.reduceEq, Int.reduceNe, Nat.reduceLeDiff, Nat.reduceLT, Int.reduceNeg, Nat.reducePow, Nat.reduceMod, ByteArray.size]
    · simp (disch := omega) only [wP, wZ, undef, UInt8.reduceToNat, Nat.reduceOr, Nat.reduceAnd, Nat.reduceXor, Nat.reduceDiv, if_pos, if_neg, aStore, frz, AV.flat, ↓reduceIte, ne_eq, reduceCtorEq, Int.reduceToNat, Nat.reduceEqDiff, Nat.reduceAdd, Nat.reduceSub, Nat.reduceMul, Int.reduceAdd, Int.reduceMul, Int.reduceSub, Int.reduceLT, Int.reduceLE, Int.reduceEq, Int.reduceNe, Nat.reduceLeDiff, Nat.reduceLT, Int.reduceNeg, Nat.reducePow, Nat.reduceMod, ByteArray.size]
      exact hsp
  · simp only [decide_eq_false_iff_not] at h
    obtain rfl : k = l.length := by omega
    rw [List.take_length]
    have hset := r16_set (f := fun n => l.count n) (g := cn l) (k := 0) (x := 0) (fun i hi => rfl)
    obtain ⟨S0, hS0⟩ : ∃ S, S = r16 fun n => l.count n := ⟨_, rfl⟩
    have hS0l : S0.length = 16 := by rw [hS0, length_r16]
    rw [← hS0] at hset ⊢
    obtain ⟨S, hS⟩ : ∃ S, S = r16 (cn l) := ⟨_, rfl⟩
    have hSl : S.length = 16 := by rw [hS, length_r16]
    rw [← hS] at hset
    have hsp := splice_nA (l := S0) (k := 0) (x := 0) (by omega)
    rw [hset] at hsp
    simp only [List.take_zero, List.map_nil, List.nil_append] at hsp
    have hsp' : AV.sc (.int .i64 0) :: (S0.drop 1).map nA = S.map nA := hsp
    repeat (first | refine wA ?_ | refine wB ?_ | refine wC rfl ?_ | refine wD rfl ?_ | refine wE ?_ | refine wF (by omega) ?_ | ((first | refine wG ?_ | refine wH ?_ | refine wI ?_ | refine wJ ?_ | refine wK ?_ | refine wL ?_); simp (disch := omega) only [wP, wZ, undef, UInt8.reduceToNat, Nat.reduceOr, Nat.reduceAnd, Nat.reduceXor, Nat.reduceDiv, if_pos, if_neg, aStore, frz, AV.flat, ↓reduceIte, ne_eq, reduceCtorEq, Int.reduceToNat, Nat.reduceEqDiff, Nat.reduceAdd, Nat.reduceSub, Nat.reduceMul, Int.reduceAdd, Int.reduceMul, Int.reduceSub, Int.reduceLT, Int.reduceLE, Int.reduceEq, Int.reduceNe, Nat.reduceLeDiff, Nat.reduceLT, Int.reduceNeg, Nat.reducePow, Nat.reduceMod, ByteArray.size, iR, hz, hsp']))
    refine SWp.loop (α := Nat) (fun k => mk 37 3 [(2, .op 2 0 0), (3, .op 3 1 0), (6, .op 6 2 0), (21, int k)] [(2, 0, .row false (Z.map nA)), (3, 1, .row false (S.map nA)), (6, 2, .row false ((r16 fun n => if n ≤ k then fr l n else 0).map nA))])
      (fun k => k ≤ 15) (fun k => 15 - k) 0 (Nat.zero_le _) (le_mk rfl ?_ ?_ ?_) ?_
    · exact Nat.le_refl _
    · simp (disch := omega) only [wP, wZ, undef, UInt8.reduceToNat, Nat.reduceOr, Nat.reduceAnd, Nat.reduceXor, Nat.reduceDiv, if_pos, if_neg, aStore, frz, AV.flat, ↓reduceIte, ne_eq, reduceCtorEq, Int.reduceToNat, Nat.reduceEqDiff, Nat.reduceAdd, Nat.reduceSub, Nat.reduceMul, Int.reduceAdd, Int.reduceMul, Int.reduceSub, Int.reduceLT, Int.reduceLE, Int.reduceEq, Int.reduceNe, Nat.reduceLeDiff, Nat.reduceLT, Int.reduceNeg, Nat.reducePow, Nat.reduceMod, ByteArray.size]
    · simp (disch := omega) only [wP, wZ, undef, UInt8.reduceToNat, Nat.reduceOr, Nat.reduceAnd, Nat.reduceXor, Nat.reduceDiv, if_pos, if_neg, aStore, frz, AV.flat, ↓reduceIte, ne_eq, reduceCtorEq, Int.reduceToNat, Nat.reduceEqDiff, Nat.reduceAdd, Nat.reduceSub, Nat.reduceMul, Int.reduceAdd, Int.reduceMul, Int.reduceSub, Int.reduceLT, Int.reduceLE, Int.reduceEq, Int.reduceNe, Nat.reduceLeDiff, Nat.reduceLT, Int.reduceNeg, Nat.reducePow, Nat.reduceMod, ByteArray.size]
      rw [hZ]
      exact congrArg (List.map nA) (r16_congr fun i _ => by
        by_cases e : i ≤ 0
        · obtain rfl : i = 0 := by omega
          rfl
        · rw [if_neg e])
    rintro k hk -
    repeat (first | refine wA ?_ | refine wB ?_ | refine wC rfl ?_ | refine wD rfl ?_ | refine wE ?_ | refine wF (by omega) ?_ | ((first | refine wG ?_ | refine wH ?_ | refine wI ?_ | refine wJ ?_ | refine wK ?_ | refine wL ?_); simp (disch := omega) only [wP, wZ, undef, UInt8.reduceToNat, Nat.reduceOr, Nat.reduceAnd, Nat.reduceXor, Nat.reduceDiv, if_pos, if_neg, aStore, frz, AV.flat, ↓reduceIte, ne_eq, reduceCtorEq, Int.reduceToNat, Nat.reduceEqDiff, Nat.reduceAdd, Nat.reduceSub, Nat.reduceMul, Int.reduceAdd, Int.reduceMul, Int.reduceSub, Int.reduceLT, Int.reduceLE, Int.reduceEq, Int.reduceNe, Nat.reduceLeDiff, Nat.reduceLT, Int.reduceNeg, Nat.reducePow, Nat.reduceMod, ByteArray.size]))
    refine SWp.cond rfl (fun h => ?_) (fun h => ?_)
    · simp only [decide_eq_true_eq] at h
      have hk15 : k < 15 := by omega
      have hg := r16_get (f := fun n => if n ≤ k then fr l n else 0) (k := k) (by omega)
      rw [if_pos (Nat.le_refl _)] at hg
      have hgs : S.getD k 0 = cn l k := by rw [hS]; exact r16_get (by omega)
      have hfl := fr_lt hl (n := k) (by omega)
      have hcl := cn_le (l := l) (n := k)
      have hset := r16_set (f := fun n => if n ≤ k then fr l n else 0) (g := fun n => if n ≤ k + 1 then fr l n else 0) (k := k + 1) (x := (fr l k + cn l k) * 2) (fun i hi => by
        show (if i ≤ k + 1 then fr l i else 0) = if i = k + 1 then _ else if i ≤ k then fr l i else 0
        by_cases e : i = k + 1
        · subst e; rw [if_pos (Nat.le_refl _), if_pos rfl, fr, Nat.mul_comm]
        · rw [if_neg e]
          by_cases e2 : i ≤ k
          · rw [if_pos e2, if_pos (by omega)]
          · rw [if_neg e2, if_neg (by omega)])
      obtain ⟨G, hG⟩ : ∃ G, G = r16 fun n => if n ≤ k then fr l n else 0 := ⟨_, rfl⟩
      have hGl : G.length = 16 := by rw [hG, length_r16]
      obtain ⟨x, hx⟩ : ∃ x, x = fr l k := ⟨_, rfl⟩
      obtain ⟨y, hy⟩ : ∃ y, y = cn l k := ⟨_, rfl⟩
      rw [← hx] at hg hfl hset
      rw [← hy] at hgs hcl hset
      rw [← hG] at hset hg ⊢
      have hsp := splice_nA (l := G) (k := k + 1) (x := (x + y) * 2) (by omega)
      rw [hset] at hsp
      repeat (first | refine wA ?_ | refine wB ?_ | refine wC rfl ?_ | refine wD rfl ?_ | refine wE ?_ | refine wF (by omega) ?_ | ((first | refine wG ?_ | refine wH ?_ | refine wI ?_ | refine wJ ?_ | refine wK ?_ | refine wL ?_); simp (disch := omega) only [wP, wZ, undef, UInt8.reduceToNat, Nat.reduceOr, Nat.reduceAnd, Nat.reduceXor, Nat.reduceDiv, if_pos, if_neg, aStore, frz, AV.flat, ↓reduceIte, ne_eq, reduceCtorEq, Int.reduceToNat, Nat.reduceEqDiff, Nat.reduceAdd, Nat.reduceSub, Nat.reduceMul, Int.reduceAdd, Int.reduceMul, Int.reduceSub, Int.reduceLT, Int.reduceLE, Int.reduceEq, Int.reduceNe, Nat.reduceLeDiff, Nat.reduceLT, Int.reduceNeg, Nat.reducePow, Nat.reduceMod, ByteArray.size, iR, hg, hgs]))
      refine At.of (k + 1) (by omega) (by omega) rfl rfl (Nat.le_refl _) ?_ ?_
      · simp (disch := omega) only [wP, wZ, undef, UInt8.reduceToNat, Nat.reduceOr, Nat.reduceAnd, Nat.reduceXor, Nat.reduceDiv, if_pos, if_neg, aStore, frz, AV.flat, ↓reduceIte, ne_eq, reduceCtorEq, Int.reduceToNat, Nat.reduceEqDiff, Nat.reduceAdd, Nat.reduceSub, Nat.reduceMul, Int.reduceAdd, Int.reduceMul, Int.reduceSub, Int.reduceLT, Int.reduceLE, Int.reduceEq, Int.reduceNe, Nat.reduceLeDiff, Nat.reduceLT, Int.reduceNeg, Nat.reducePow, Nat.reduceMod, ByteArray.size]
      · simp (disch := omega) only [wP, wZ, undef, UInt8.reduceToNat, Nat.reduceOr, Nat.reduceAnd, Nat.reduceXor, Nat.reduceDiv, if_pos, if_neg, aStore, frz, AV.flat, ↓reduceIte, ne_eq, reduceCtorEq, Int.reduceToNat, Nat.reduceEqDiff, Nat.reduceAdd, Nat.reduceSub, Nat.reduceMul, Int.reduceAdd, Int.reduceMul, Int.reduceSub, Int.reduceLT, Int.reduceLE, Int.reduceEq, Int.reduceNe, Nat.reduceLeDiff, Nat.reduceLT, Int.reduceNeg, Nat.reducePow, Nat.reduceMod, ByteArray.size]
        exact hsp
    · simp only [decide_eq_false_iff_not] at h
      obtain rfl : k = 15 := by omega
      have hr : (r16 fun n => if n ≤ 15 then fr l n else 0) = r16 (fr l) := r16_congr fun i hi => if_pos (by omega)
      rw [hr]
      obtain ⟨F, hF⟩ : ∃ F, F = r16 (fr l) := ⟨_, rfl⟩
      have hFl : F.length = 16 := by rw [hF, length_r16]
      rw [← hF]
      repeat (first | refine wA ?_ | refine wB ?_ | refine wC rfl ?_ | refine wD rfl ?_ | refine wE ?_ | refine wF (by omega) ?_ | ((first | refine wG ?_ | refine wH ?_ | refine wI ?_ | refine wJ ?_ | refine wK ?_ | refine wL ?_); simp (disch := omega) only [wP, wZ, undef, UInt8.reduceToNat, Nat.reduceOr, Nat.reduceAnd, Nat.reduceXor, Nat.reduceDiv, if_pos, if_neg, aStore, frz, AV.flat, ↓reduceIte, ne_eq, reduceCtorEq, Int.reduceToNat, Nat.reduceEqDiff, Nat.reduceAdd, Nat.reduceSub, Nat.reduceMul, Int.reduceAdd, Int.reduceMul, Int.reduceSub, Int.reduceLT, Int.reduceLE, Int.reduceEq, Int.reduceNe, Nat.reduceLeDiff, Nat.reduceLT, Int.reduceNeg, Nat.reducePow, Nat.reduceMod, ByteArray.size, iR, hFl, hZd]))
def codeOf (l : List Nat) (i : Nat) : Nat := if l.getD i 0 = 0 then 0 else fr l (l.getD i 0) + (l.take i).count (l.getD i 0)
def codesL (l : List Nat) : List Nat := (List.range l.length).map (codeOf l)
theorem length_codesL {l : List Nat} : (codesL l).length = l.length := by simp [codesL]
theorem zerosN {n : Nat} : (List.replicate n [AV.sc (.int .i64 0)]).flatten = (List.replicate n 0).map nA := by
  induction n with
  | zero => rfl
  | succ n ih => simp only [List.replicate_succ, List.flatten_cons, ih, List.map_cons]; rfl
def codesK (l : List Nat) (k : Nat) : List Nat := (List.range l.length).map fun i => if i < k then codeOf l i else 0
theorem length_codesK {l : List Nat} {k : Nat} : (codesK l k).length = l.length := by simp [codesK]
theorem codesK_zero {l : List Nat} : codesK l 0 = List.replicate l.length 0 := by
  apply List.ext_getElem?
  intro i
  by_cases h : i < l.length
  · simp [codesK, h]
  · rw [List.getElem?_eq_none (by rw [length_codesK]; omega), List.getElem?_eq_none (by simp; omega)]
theorem codesK_all {l : List Nat} : codesK l l.length = codesL l := List.map_congr_left fun i hi => by rw [if_pos (List.mem_range.1 hi)]
theorem codesK_set {l : List Nat} {k : Nat} (h : k < l.length) : (codesK l k).set k (codeOf l k) = codesK l (k + 1) := by
  apply List.ext_getElem?
  intro i
  rw [List.getElem?_set, length_codesK]
  by_cases hi : i < l.length
  · have h1 : (codesK l k)[i]? = some (if i < k then codeOf l i else 0) := by simp [codesK, hi]
    have h2 : (codesK l (k + 1))[i]? = some (if i < k + 1 then codeOf l i else 0) := by simp [codesK, hi]
    rw [h1, h2]
    by_cases e : k = i
    · subst e; simp [h]
    · rw [if_neg e]
      by_cases e2 : i < k
      · rw [if_pos e2, if_pos (by omega)]
      · rw [if_neg e2, if_neg (by omega)]
  · have h1 : (codesK l k)[i]? = none := List.getElem?_eq_none (by rw [length_codesK]; omega)
    have h2 : (codesK l (k + 1))[i]? = none := List.getElem?_eq_none (by rw [length_codesK]; omega)
    rw [h1, h2, if_neg (by omega)]
theorem codesK_same {l : List Nat} {k : Nat} (h : k < l.length) (h0 : l.getD k 0 = 0) : codesK l (k + 1) = codesK l k := by
  refine List.map_congr_left fun i hi => ?_
  by_cases e : i = k
  · subst e; rw [if_pos (by omega), if_neg (by omega), codeOf, if_pos h0]
  · by_cases e2 : i < k
    · rw [if_pos e2, if_pos (by omega)]
    · rw [if_neg e2, if_neg (by omega)]
def nxK (l : List Nat) (k : Nat) (n : Nat) : Nat := if n = 0 then 0 else fr l n + (l.take k).count n
def st (l : List Nat) (n k : Nat) : List Nat := (List.range l.length).map fun i => if l.getD i 0 < n ∨ (l.getD i 0 = n ∧ i < k) then codeOf l i else l.getD i 0
end Go.Proofs.Ytbmppmdklappiaa.Aw
namespace Go.Proofs.Ytbmppmdklappiaa.Aw
open Go
set_option linter.unusedSimpArgs false
set_option linter.unusedVariables false
set_option maxRecDepth 100000 in
theorem huff_Codes_h [Tabs Try.prog] (nl : Bool) (li : List Int) (hc : chk li = 0) (l : List Nat) (hli : l = li.map Int.toNat) : HCon Try.prog n_huff_Codes [.sl nl none (li.map int)] [] (.tup [.own 18 2 none 0 l.length, int 0]) [(18, 2, .row false ((codesL l).map nA))] 3 := by
  obtain ⟨hlen, ha, hK⟩ := chk_ok hc
  obtain ⟨hm, h15⟩ := okLens ha
  rw [← hli] at hm h15 hK
  have hl : l.length ≤ 320 := by rw [hli, List.length_map]; exact hlen
  have hchk := huff_Check_c nl li (by omega)
  rw [hm, hc] at hchk
  rw [hm]
  clear hm ha hc
  refine HCon.of' mix Try.func16 rfl Try.ntmps16 e_huff_Codes r_huff_Codes (by simp) (by simp only [AV.gl.glL, AV.gl, and_true]; exact glL_of_free _ _ free_nA) (by simp) ?_
  unfold s_huff_Codes
  have hf : AV.free.freeL [.sl nl none (l.map nA)] = true := by simp only [AV.free, AV.free.freeL, free_nA, Bool.and_self]
  obtain ⟨Z, hZ⟩ : ∃ Z, Z = r16 fun _ => 0 := ⟨_, rfl⟩
  have hZl : Z.length = 16 := by rw [hZ, length_r16]
  have hz : (List.replicate 16 (Value.int .i64 0)).map AV.sc = Z.map nA := by rw [hZ]; rfl
  have hZd : Z.drop 16 = [] := List.drop_of_length_le (by omega)
  have hfr := huff_firstRows_c nl l hl h15
  have hF0 : r16 (fr l) = r16 (nxK l 0) := r16_congr fun i _ => by
    unfold nxK
    by_cases e : i = 0
    · subst e; rfl
    · rw [if_neg e]; simp
  obtain ⟨F, hF⟩ : ∃ F, F = r16 (fr l) := ⟨_, rfl⟩
  have hFl : F.length = 16 := by rw [hF, length_r16]
  rw [← hF] at hfr
  repeat (first | refine wA ?_ | refine wB ?_ | refine wC rfl ?_ | refine wD rfl ?_ | refine wE ?_ | refine wF (by omega) ?_ | ((first | refine wG ?_ | refine wH ?_ | refine wI ?_ | refine wJ ?_ | refine wK ?_ | refine wL ?_); simp (disch := omega) only [wP, wZ, undef, UInt8.reduceToNat, Nat.reduceOr, Nat.reduceAnd, Nat.reduceXor, Nat.reduceDiv, if_pos, if_neg, aStore, frz, AV.flat, ↓reduceIte, ne_eq, reduceCtorEq, Int.reduceToNat, Nat.reduceEqDiff, Nat.reduceAdd, Nat.reduceSub, Nat.reduceMul, Int.reduceAdd, Int.reduceMul, Int.reduceSub, Int.reduceLT, Int.reduceLE, Int.reduceEq, Int.reduceNe, Nat.reduceLeDiff, Nat.reduceLT, Int.reduceNeg, Nat.reducePow, Nat.reduceMod, ByteArray.size]))
  refine goC_p _ (.inl ⟨hf, hchk⟩) ?_
  repeat (first | refine wA ?_ | refine wB ?_ | refine wC rfl ?_ | refine wD rfl ?_ | refine wE ?_ | refine wF (by omega) ?_ | ((first | refine wG ?_ | refine wH ?_ | refine wI ?_ | refine wJ ?_ | refine wK ?_ | refine wL ?_); simp (disch := omega) only [wP, wZ, undef, UInt8.reduceToNat, Nat.reduceOr, Nat.reduceAnd, Nat.reduceXor, Nat.reduceDiv, if_pos, if_neg, aStore, frz, AV.flat, ↓reduceIte, ne_eq, reduceCtorEq, Int.reduceToNat, Nat.reduceEqDiff, Nat.reduceAdd, Nat.reduceSub, Nat.reduceMul, Int.reduceAdd, Int.reduceMul, Int.reduceSub, Int.reduceLT, Int.reduceLE, Int.reduceEq, Int.reduceNe, Nat.reduceLeDiff, Nat.reduceLT, Int.reduceNeg, Nat.reducePow, Nat.reduceMod, ByteArray.size]))
  refine goC_p _ (.inl ⟨hf, hfr⟩) ?_
  repeat (first | refine wA ?_ | refine wB ?_ | refine wC rfl ?_ | refine wD rfl ?_ | refine wE ?_ | refine wF (by omega) ?_ | ((first | refine wG ?_ | refine wH ?_ | refine wI ?_ | refine wJ ?_ | refine wK ?_ | refine wL ?_); simp (disch := omega) only [wP, wZ, undef, UInt8.reduceToNat, Nat.reduceOr, Nat.reduceAnd, Nat.reduceXor, Nat.reduceDiv, if_pos, if_neg, aStore, frz, AV.flat, ↓reduceIte, ne_eq, reduceCtorEq, Int.reduceToNat, Nat.reduceEqDiff, Nat.reduceAdd, Nat.reduceSub, Nat.reduceMul, Int.reduceAdd, Int.reduceMul, Int.reduceSub, Int.reduceLT, Int.reduceLE, Int.reduceEq, Int.reduceNe, Nat.reduceLeDiff, Nat.reduceLT, Int.reduceNeg, Nat.reducePow, Nat.reduceMod, ByteArray.size, iR, hz, hFl, hZd, zerosN]))
  have hcz : List.replicate l.length 0 = codesK l 0 := codesK_zero.symm
  refine SWp.loop (α := Nat) (fun k => mk 41 3 [(5, .op 5 1 0), (6, .own 18 2 none 0 l.length), (19, .sl nl none (l.map nA)), (20, int l.length), (21, int k)] [(5, 1, .row false ((r16 (nxK l k)).map nA)), (18, 2, .row false ((codesK l k).map nA))])
    (fun k => k ≤ l.length) (fun k => l.length - k) 0 (Nat.zero_le _) (le_mk rfl ?_ ?_ ?_) ?_
  · exact Nat.le_refl _
  iterate 2 (case _ => simp (disch := omega) only [wP, wZ, undef, UInt8.reduceToNat, Nat.reduceOr, Nat.reduceAnd, Nat.reduceXor, Nat.reduceDiv, if_pos, if_neg, aStore, frz, AV.flat, ↓reduceIte, ne_eq, reduceCtorEq, Int.reduceToNat, Nat.reduceEqDiff, Nat.reduceAdd, Nat.reduceSub, Nat.reduceMul, Int.reduceAdd, Int.reduceMul, Int.reduceSub, Int.reduceLT, Int.reduceLE, Int.reduceEq, Int.reduceNe, Nat.reduceLeDiff, Nat.reduceLT, Int.reduceNeg, Nat.reducePow, Nat.reduceMod, ByteArray.size, ← hF0, ← hF, hcz])
  rintro k hk -
  repeat (first | refine wA ?_ | refine wB ?_ | refine wC rfl ?_ | refine wD rfl ?_ | refine wE ?_ | refine wF (by omega) ?_ | ((first | refine wG ?_ | refine wH ?_ | refine wI ?_ | refine wJ ?_ | refine wK ?_ | refine wL ?_); simp (disch := omega) only [wP, wZ, undef, UInt8.reduceToNat, Nat.reduceOr, Nat.reduceAnd, Nat.reduceXor, Nat.reduceDiv, if_pos, if_neg, aStore, frz, AV.flat, ↓reduceIte, ne_eq, reduceCtorEq, Int.reduceToNat, Nat.reduceEqDiff, Nat.reduceAdd, Nat.reduceSub, Nat.reduceMul, Int.reduceAdd, Int.reduceMul, Int.reduceSub, Int.reduceLT, Int.reduceLE, Int.reduceEq, Int.reduceNe, Nat.reduceLeDiff, Nat.reduceLT, Int.reduceNeg, Nat.reducePow, Nat.reduceMod, ByteArray.size]))
  refine SWp.cond rfl (fun h => ?_) (fun h => ?_)
  · simp only [decide_eq_true_eq] at h
    have hkl : k < l.length := by omega
    have hx15 : l.getD k 0 ≤ 15 := by
      have : l.getD k 0 = l[k] := by simp [List.getD, List.getElem?_eq_getElem hkl]
      rw [this]; exact h15 _ (List.getElem_mem hkl)
    have hcs : ∀ n, (l.take (k + 1)).count n = (l.take k).count n + (if n = l.getD k 0 then 1 else 0) := fun n => count_snoc hkl
    have hcd : l.getD k 0 ≠ 0 → codeOf l k = nxK l k (l.getD k 0) := fun h => by unfold codeOf nxK; simp [h]
    have hsm := codesK_same hkl
    have hst := codesK_set hkl
    obtain ⟨x, hx⟩ : ∃ x, x = l.getD k 0 := ⟨_, rfl⟩
    rw [← hx] at hx15 hcs hcd hsm
    by_cases c0 : x = 0
    · have hsame : r16 (nxK l (k + 1)) = r16 (nxK l k) := r16_congr fun i _ => by
        unfold nxK
        by_cases e : i = 0
        · rw [if_pos e, if_pos e]
        · rw [if_neg e, if_neg e, hcs, if_neg (by omega)]; rfl
      have hsm := hsm c0
      subst c0
      repeat (first | refine wA ?_ | refine wB ?_ | refine wC rfl ?_ | refine wD rfl ?_ | refine wE ?_ | refine wF (by omega) ?_ | ((first | refine wG ?_ | refine wH ?_ | refine wI ?_ | refine wJ ?_ | refine wK ?_ | refine wL ?_); simp (disch := omega) only [wP, wZ, undef, UInt8.reduceToNat, Nat.reduceOr, Nat.reduceAnd, Nat.reduceXor, Nat.reduceDiv, if_pos, if_neg, aStore, frz, AV.flat, ↓reduceIte, ne_eq, reduceCtorEq, Int.reduceToNat, Nat.reduceEqDiff, Nat.reduceAdd, Nat.reduceSub, Nat.reduceMul, Int.reduceAdd, Int.reduceMul, Int.reduceSub, Int.reduceLT, Int.reduceLE, Int.reduceEq, Int.reduceNe, Nat.reduceLeDiff, Nat.reduceLT, Int.reduceNeg, Nat.reducePow, Nat.reduceMod, ByteArray.size, iR, ← hx]))
      refine At.of (k + 1) (by omega) (by omega) rfl rfl (Nat.le_refl _) ?_ ?_
      iterate 2 (case _ => simp (disch := omega) only [wP, wZ, undef, UInt8.reduceToNat, Nat.reduceOr, Nat.reduceAnd, Nat.reduceXor, Nat.reduceDiv, if_pos, if_neg, aStore, frz, AV.flat, ↓reduceIte, ne_eq, reduceCtorEq, Int.reduceToNat, Nat.reduceEqDiff, Nat.reduceAdd, Nat.reduceSub, Nat.reduceMul, Int.reduceAdd, Int.reduceMul, Int.reduceSub, Int.reduceLT, Int.reduceLE, Int.reduceEq, Int.reduceNe, Nat.reduceLeDiff, Nat.reduceLT, Int.reduceNeg, Nat.reducePow, Nat.reduceMod, ByteArray.size, hsame, hsm])
    · have d0 : decide ((0 : Int) < (x : Int)) = true := decide_eq_true (by omega)
      have hg := r16_get (f := nxK l k) (k := x) (by omega)
      have hfl := fr_lt hl (n := x) hx15
      have hcl := count_take_le (l := l) (k := k) (n := x)
      have hyl : nxK l k x ≤ 20971840 := by unfold nxK; rw [if_neg c0]; omega
      have hset := r16_set (f := nxK l k) (g := nxK l (k + 1)) (k := x) (x := nxK l k x + 1) (fun i hi => by
        unfold nxK
        by_cases e : i = 0
        · subst e; rw [if_pos rfl, if_neg (fun h => c0 h.symm)]; rfl
        · rw [if_neg e, hcs]
          by_cases e2 : i = x
          · subst e2; simp [e, Nat.add_assoc]
          · simp [e, e2])
      rw [hcd c0] at hst
      obtain ⟨N, hN⟩ : ∃ N, N = r16 (nxK l k) := ⟨_, rfl⟩
      have hNl : N.length = 16 := by rw [hN, length_r16]
      obtain ⟨C, hC⟩ : ∃ C, C = codesK l k := ⟨_, rfl⟩
      have hCl : C.length = l.length := by rw [hC, length_codesK]
      obtain ⟨y, hy⟩ : ∃ y, y = nxK l k x := ⟨_, rfl⟩
      rw [← hN] at hset hg ⊢
      rw [← hC] at hst ⊢
      rw [← hy] at hg hset hyl hst
      have hsp1 := splice_nA (l := C) (k := k) (x := y) (by omega)
      rw [hst] at hsp1
      have hsp2 := splice_nA (l := N) (k := x) (x := y + 1) (by omega)
      rw [hset] at hsp2
      repeat (first | refine wA ?_ | refine wB ?_ | refine wC rfl ?_ | refine wD rfl ?_ | refine wE ?_ | refine wF (by omega) ?_ | ((first | refine wG ?_ | refine wH ?_ | refine wI ?_ | refine wJ ?_ | refine wK ?_ | refine wL ?_); simp (disch := omega) only [wP, wZ, undef, UInt8.reduceToNat, Nat.reduceOr, Nat.reduceAnd, Nat.reduceXor, Nat.reduceDiv, if_pos, if_neg, aStore, frz, AV.flat, ↓reduceIte, ne_eq, reduceCtorEq, Int.reduceToNat, Nat.reduceEqDiff, Nat.reduceAdd, Nat.reduceSub, Nat.reduceMul, Int.reduceAdd, Int.reduceMul, Int.reduceSub, Int.reduceLT, Int.reduceLE, Int.reduceEq, Int.reduceNe, Nat.reduceLeDiff, Nat.reduceLT, Int.reduceNeg, Nat.reducePow, Nat.reduceMod, ByteArray.size, iR, ← hx, d0, hg]))
      refine At.of (k + 1) (by omega) (by omega) rfl rfl (Nat.le_refl _) ?_ ?_
      · simp (disch := omega) only [wP, wZ, undef, UInt8.reduceToNat, Nat.reduceOr, Nat.reduceAnd, Nat.reduceXor, Nat.reduceDiv, if_pos, if_neg, aStore, frz, AV.flat, ↓reduceIte, ne_eq, reduceCtorEq, Int.reduceToNat, Nat.reduceEqDiff, Nat.reduceAdd, Nat.reduceSub, Nat.reduceMul, Int.reduceAdd, Int.reduceMul, Int.reduceSub, Int.reduceLT, Int.reduceLE, Int.reduceEq, Int.reduceNe, Nat.reduceLeDiff, Nat.reduceLT, Int.reduceNeg, Nat.reducePow, Nat.reduceMod, ByteArray.size]
      · simp (disch := omega) only [wP, wZ, undef, UInt8.reduceToNat, Nat.reduceOr, Nat.reduceAnd, Nat.reduceXor, Nat.reduceDiv, if_pos, if_neg, aStore, frz, AV.flat, ↓reduceIte, ne_eq, reduceCtorEq, Int.reduceToNat, Nat.reduceEqDiff, Nat.reduceAdd, Nat.reduceSub, Nat.reduceMul, Int.reduceAdd, Int.reduceMul, Int.reduceSub, Int.reduceLT, Int.reduceLE, Int.reduceEq, Int.reduceNe, Nat.reduceLeDiff, Nat.reduceLT, Int.reduceNeg, Nat.reducePow, Nat.reduceMod, ByteArray.size]
        exact ⟨hsp2, hsp1⟩
  · simp only [decide_eq_false_iff_not] at h
    obtain rfl : k = l.length := by omega
    rw [codesK_all]
    have hlc := length_codesL (l := l)
    repeat (first | refine wA ?_ | refine wB ?_ | refine wC rfl ?_ | refine wD rfl ?_ | refine wE ?_ | refine wF (by omega) ?_ | ((first | refine wG ?_ | refine wH ?_ | refine wI ?_ | refine wJ ?_ | refine wK ?_ | refine wL ?_); simp (disch := omega) only [wP, wZ, undef, UInt8.reduceToNat, Nat.reduceOr, Nat.reduceAnd, Nat.reduceXor, Nat.reduceDiv, if_pos, if_neg, aStore, frz, AV.flat, ↓reduceIte, ne_eq, reduceCtorEq, Int.reduceToNat, Nat.reduceEqDiff, Nat.reduceAdd, Nat.reduceSub, Nat.reduceMul, Int.reduceAdd, Int.reduceMul, Int.reduceSub, Int.reduceLT, Int.reduceLE, Int.reduceEq, Int.reduceNe, Nat.reduceLeDiff, Nat.reduceLT, Int.reduceNeg, Nat.reducePow, Nat.reduceMod, ByteArray.size, iR]))
end Go.Proofs.Ytbmppmdklappiaa.Aw
namespace Go.Proofs.Ytbmppmdklappiaa.Aw
open Go
set_option linter.unusedSimpArgs false
set_option linter.unusedVariables false
def wrR (g n i : Nat) : List AV := [.own 1001 g none 0 n, .sc (.int .i64 (i : Int))]
theorem wr_gl {n i : Nat} {nl : Bool} {b : List UInt8} : ∀ m cells, AO.row m cells ∈ [AO.row false (wrR 0 n i), .row nl (b.map u8)] → AV.gl.glL 1 cells := by
  intro m cells h
  simp only [List.mem_cons, AO.row.injEq, List.not_mem_nil, or_false] at h
  obtain ⟨-, rfl⟩ | ⟨-, rfl⟩ := h
  · simp only [wrR, AV.gl.glL, AV.gl, and_true]; omega
  · exact glL_of_free _ _ free_u8
theorem huff_NewWriter_h [Tabs Try.prog] : HCon Try.prog n_huff_NewWriter [] [] (.op 2 1 0) [(2, 1, .row false [.own 100 2 none 0 0, int 0]), (100, 2, .row true [])] 3 := by
  refine HCon.of' mix Try.func24 rfl Try.ntmps24 e_huff_NewWriter r_huff_NewWriter (by simp) (by simp [AV.gl.glL]) (by simp) ?_
  unfold s_huff_NewWriter
  iterate 4 (first | refine wA ?_ | refine wB ?_ | refine wC rfl ?_ | refine wD rfl ?_ | refine wE ?_ | refine wF (by omega) ?_ | ((first | refine wG ?_ | refine wH ?_ | refine wI ?_ | refine wJ ?_ | refine wK ?_ | refine wL ?_); simp (disch := omega) only [wP, wZ, undef, UInt8.reduceToNat, Nat.reduceOr, Nat.reduceAnd, Nat.reduceXor, Nat.reduceDiv, if_pos, if_neg, aStore, frz, AV.flat, ↓reduceIte, ne_eq, reduceCtorEq, Int.reduceToNat, Nat.reduceEqDiff, Nat.reduceAdd, Nat.reduceSub, Nat.reduceMul, Int.reduceAdd, Int.reduceMul, Int.reduceSub, Int.reduceLT, Int.reduceLE, Int.reduceEq, Int.reduceNe, Nat.reduceLeDiff, Nat.reduceLT, Int.reduceNeg, Nat.reducePow, Nat.reduceMod, ByteArray.size]))
  refine SWp.adoptC 2 1 0 100 none (nl := false) (cells := [.sc (.slice none 0 0), int 0]) (by simp (disch := omega) only [wP, wZ, undef, UInt8.reduceToNat, Nat.reduceOr, Nat.reduceAnd, Nat.reduceXor, Nat.reduceDiv, if_pos, if_neg, aStore, frz, AV.flat, ↓reduceIte, ne_eq, reduceCtorEq, Int.reduceToNat, Nat.reduceEqDiff, Nat.reduceAdd, Nat.reduceSub, Nat.reduceMul, Int.reduceAdd, Int.reduceMul, Int.reduceSub, Int.reduceLT, Int.reduceLE, Int.reduceEq, Int.reduceNe, Nat.reduceLeDiff, Nat.reduceLT, Int.reduceNeg, Nat.reducePow, Nat.reduceMod, ByteArray.size]) rfl (by decide) ?_
  repeat (first | refine wA ?_ | refine wB ?_ | refine wC rfl ?_ | refine wD rfl ?_ | refine wE ?_ | refine wF (by omega) ?_ | ((first | refine wG ?_ | refine wH ?_ | refine wI ?_ | refine wJ ?_ | refine wK ?_ | refine wL ?_); simp (disch := omega) only [wP, wZ, undef, UInt8.reduceToNat, Nat.reduceOr, Nat.reduceAnd, Nat.reduceXor, Nat.reduceDiv, if_pos, if_neg, aStore, frz, AV.flat, ↓reduceIte, ne_eq, reduceCtorEq, Int.reduceToNat, Nat.reduceEqDiff, Nat.reduceAdd, Nat.reduceSub, Nat.reduceMul, Int.reduceAdd, Int.reduceMul, Int.reduceSub, Int.reduceLT, Int.reduceLE, Int.reduceEq, Int.reduceNe, Nat.reduceLeDiff, Nat.reduceLT, Int.reduceNeg, Nat.reducePow, Nat.reduceMod, ByteArray.size, List.set_cons_zero]))
set_option maxRecDepth 100000 in
theorem huff_wbit_h [Tabs Try.prog] (L : List Nat) (hl : L.length ≤ 1000000) (hL : ∀ x ∈ L, x < 2) (n i : Nat) (hn : n = (L.length + 7) / 8) (hi : i = L.length) (x : Nat) (hx : x < 2) :
    HCon Try.prog n_huff_Writer_bit [.op 1000 0 0, .sc (.int .i64 (x : Int))] [.row false (wrR 0 n i), .row (nl0 n) ((bytesB L).map u8)] (.tup [])
      [(1000, 0, .row false (wrR 1 ((i + 8) / 8) (i + 1))), (1001, 1, .row false ((bytesB (L ++ [x])).map u8))] 2 := by
  refine HCon.of' mix Try.func41 rfl Try.ntmps41 e_huff_Writer_bit r_huff_Writer_bit (by simp) (by simp [AV.gl, AV.gl.glL]) wr_gl ?_
  unfold s_huff_Writer_bit
  have hbl : (bytesB L).length = n := by rw [length_bytesB, hn]
  by_cases c0 : i % 8 = 0
  · have hs := bytesB_snoc0 (L := L) (x := x) (by omega)
    have hin : i / 8 = n := by omega
    have hn1 : (i + 8) / 8 = n + 1 := by omega
    obtain ⟨b, hb⟩ : ∃ b, b = bytesB L := ⟨_, rfl⟩
    rw [← hb] at hs hbl ⊢
    rw [hs, hn1]
    obtain ⟨b0, hb0⟩ : ∃ b0, b0 = b ++ [0] := ⟨_, rfl⟩
    have hrow : b.map u8 ++ [AV.sc (.int .u8 0)] = b0.map u8 := by rw [hb0]; simp [u8]
    have hl0 : b0.length = n + 1 := by rw [hb0]; simp [hbl]
    have hg0 : b0.getD n 0 = 0 := by rw [hb0, ← hbl]; simp [List.getD]
    have hset : b0.set n (UInt8.ofNat x) = b ++ [UInt8.ofNat x] := by rw [hb0, ← hbl]; simp
    have hor : aInt .or .u8 ((b0.getD n 0).toNat : Int) .u8 (x : Int) = (True, .sc (.int .u8 ((UInt8.ofNat x).toNat : Int))) := by
      rw [hg0]
      obtain rfl | rfl : x = 0 ∨ x = 1 := by omega
      · exact or_u8 (n := 0) (m := 0) (by omega) (by omega)
      · exact or_u8 (n := 0) (m := 1) (by omega) (by omega)
    have hfin := splice_u8 (b := b0) (k := n) (c := UInt8.ofNat x) (by omega)
    rw [hset] at hfin
    repeat (first | refine wA ?_ | refine wB ?_ | refine wC rfl ?_ | refine wD rfl ?_ | refine wE ?_ | refine wF (by omega) ?_ | ((first | refine wG ?_ | refine wH ?_ | refine wI ?_ | refine wJ ?_ | refine wK ?_ | refine wL ?_); simp (disch := omega) only [wP, wZ, undef, UInt8.reduceToNat, Nat.reduceOr, Nat.reduceAnd, Nat.reduceXor, Nat.reduceDiv, if_pos, if_neg, aStore, frz, AV.flat, ↓reduceIte, ne_eq, reduceCtorEq, Int.reduceToNat, Nat.reduceEqDiff, Nat.reduceAdd, Nat.reduceSub, Nat.reduceMul, Int.reduceAdd, Int.reduceMul, Int.reduceSub, Int.reduceLT, Int.reduceLE, Int.reduceEq, Int.reduceNe, Nat.reduceLeDiff, Nat.reduceLT, Int.reduceNeg, Nat.reducePow, Nat.reduceMod, ByteArray.size, wrR, c0, hin, hrow, hor, hfin, iR]))
  · have hs := bytesB_snoc1 (L := L) (x := x) (by omega)
    have hla := bytesB_last (L := L) (by omega)
    obtain ⟨q, hq⟩ : ∃ q, q = L.length / 8 := ⟨_, rfl⟩
    obtain ⟨j, hj⟩ : ∃ j, j = L.length % 8 := ⟨_, rfl⟩
    rw [← hq] at hs hla
    rw [← hj] at hs
    have hlt := numB_lt (l := L.drop (8 * q)) fun y hy => hL y (List.mem_of_mem_drop hy)
    have hdl : (L.drop (8 * q)).length = j := by rw [List.length_drop]; omega
    rw [hdl] at hlt
    obtain ⟨y, hy⟩ : ∃ y, y = numB (L.drop (8 * q)) := ⟨_, rfl⟩
    rw [← hy] at hs hla hlt
    have hp : 2 ^ j ≤ 128 := two_pow_le (n := j) (m := 7) (by omega)
    obtain ⟨z, hz⟩ : ∃ z, z = x * 2 ^ j := ⟨_, rfl⟩
    have hzl : z ≤ 128 := by
      obtain rfl | rfl : x = 0 ∨ x = 1 := by omega
      · omega
      · omega
    have hor : y ||| z = y + 2 ^ j * x := by
      rw [hz, Nat.mul_comm, Nat.or_comm, ← Nat.two_pow_add_eq_or_of_lt hlt, Nat.add_comm]
    have hyz : y + 2 ^ j * x < 256 := by
      rw [Nat.mul_comm, ← hz]
      have := Nat.or_lt_two_pow (n := 8) (x := y) (y := z) (by omega) (by omega)
      rw [hor, Nat.mul_comm, ← hz] at this
      exact this
    have hiq : i / 8 = q := by omega
    have hij : i % 8 = j := by omega
    have hi8 : (i + 8) / 8 = n := by omega
    have hqn : q < n := by omega
    obtain ⟨b, hb⟩ : ∃ b, b = bytesB L := ⟨_, rfl⟩
    rw [← hb] at hs hla hbl ⊢
    rw [hs, hi8]
    have hbq : ((b.getD q 0).toNat : Int) = (y : Int) := by rw [hla, UInt8.toNat_ofNat', Nat.mod_eq_of_lt (by omega)]
    obtain ⟨c, hc⟩ : ∃ c, c = UInt8.ofNat (y + 2 ^ j * x) := ⟨_, rfl⟩
    have hcy : y ||| z = c.toNat := by rw [hc, hor, UInt8.toNat_ofNat', Nat.mod_eq_of_lt hyz]
    rw [← hc]
    have hfin := splice_u8 (b := b) (k := q) (c := c) (by omega)
    have dj : decide ((j : Int) = 0) = false := decide_eq_false (by omega)
    have hnl : nl0 n = false := nl0_pos (by omega)
    refine SWp.renew 1001 0 (o := .row (nl0 n) (b.map u8)) (by simp (disch := omega) only [wP, wZ, undef, UInt8.reduceToNat, Nat.reduceOr, Nat.reduceAnd, Nat.reduceXor, Nat.reduceDiv, if_pos, if_neg, aStore, frz, AV.flat, ↓reduceIte, ne_eq, reduceCtorEq, Int.reduceToNat, Nat.reduceEqDiff, Nat.reduceAdd, Nat.reduceSub, Nat.reduceMul, Int.reduceAdd, Int.reduceMul, Int.reduceSub, Int.reduceLT, Int.reduceLE, Int.reduceEq, Int.reduceNe, Nat.reduceLeDiff, Nat.reduceLT, Int.reduceNeg, Nat.reducePow, Nat.reduceMod, ByteArray.size, wrR]) ?_
    refine SWp.le (le_mk (N := 47) (gc := 2) (l := [(0, .op 1000 0 0), (1, .sc (.int .i64 (x : Int)))]) (h := [(1000, 0, .row false (wrR 1 n i)), (1001, 1, .row false (b.map u8))]) rfl ?_ ?_ ?_) ?_
    · exact Nat.le_refl _
    iterate 2 (case _ => simp (disch := omega) only [wP, wZ, undef, UInt8.reduceToNat, Nat.reduceOr, Nat.reduceAnd, Nat.reduceXor, Nat.reduceDiv, if_pos, if_neg, aStore, frz, AV.flat, ↓reduceIte, ne_eq, reduceCtorEq, Int.reduceToNat, Nat.reduceEqDiff, Nat.reduceAdd, Nat.reduceSub, Nat.reduceMul, Int.reduceAdd, Int.reduceMul, Int.reduceSub, Int.reduceLT, Int.reduceLE, Int.reduceEq, Int.reduceNe, Nat.reduceLeDiff, Nat.reduceLT, Int.reduceNeg, Nat.reducePow, Nat.reduceMod, ByteArray.size, rgn_eq, wrR, rgH_at, hnl])
    repeat (first | refine wA ?_ | refine wB ?_ | refine wC rfl ?_ | refine wD rfl ?_ | refine wE ?_ | refine wF (by omega) ?_ | ((first | refine wG ?_ | refine wH ?_ | refine wI ?_ | refine wJ ?_ | refine wK ?_ | refine wL ?_); simp (disch := omega) only [wP, wZ, undef, UInt8.reduceToNat, Nat.reduceOr, Nat.reduceAnd, Nat.reduceXor, Nat.reduceDiv, if_pos, if_neg, aStore, frz, AV.flat, ↓reduceIte, ne_eq, reduceCtorEq, Int.reduceToNat, Nat.reduceEqDiff, Nat.reduceAdd, Nat.reduceSub, Nat.reduceMul, Int.reduceAdd, Int.reduceMul, Int.reduceSub, Int.reduceLT, Int.reduceLE, Int.reduceEq, Int.reduceNe, Nat.reduceLeDiff, Nat.reduceLT, Int.reduceNeg, Nat.reducePow, Nat.reduceMod, ByteArray.size, wrR, hij, dj, hiq, hbq, ← hz, hcy, hfin, iR]))
set_option maxRecDepth 100000 in
theorem huff_Put_h [Tabs Try.prog] (L : List Nat) (hl : L.length ≤ 100000) (hL : ∀ x ∈ L, x < 2) (v : Nat) (hv : v < 16777216) (n : Nat) (hn : n ≤ 24) (i m : Nat) (hi : i = L.length) (hm : m = (L.length + 7) / 8) :
    HCon Try.prog n_huff_Writer_Put [.op 1000 0 0, .sc (.int .i64 (v : Int)), .sc (.int .i64 (n : Int))] [.row false (wrR 0 m i), .row (nl0 m) ((bytesB L).map u8)] (.tup [])
      [(1000, 0, .row false (wrR 60 ((i + n + 7) / 8) (i + n))), (1001, 60, .row (nl0 ((i + n + 7) / 8)) ((bytesB (L ++ digB v n)).map u8))] 61 := by
  refine HCon.of' mix Try.func30 rfl Try.ntmps30 e_huff_Writer_Put r_huff_Writer_Put (by simp) (by simp [AV.gl, AV.gl.glL]) wr_gl ?_
  unfold s_huff_Writer_Put
  have d1 : decide ((n : Int) < 0) = false := decide_eq_false (by omega)
  have d2 : decide (24 < (n : Int)) = false := decide_eq_false (by omega)
  repeat (first | refine wA ?_ | refine wB ?_ | refine wC rfl ?_ | refine wD rfl ?_ | refine wE ?_ | refine wF (by omega) ?_ | ((first | refine wG ?_ | refine wH ?_ | refine wI ?_ | refine wJ ?_ | refine wK ?_ | refine wL ?_); simp (disch := omega) only [wP, wZ, undef, UInt8.reduceToNat, Nat.reduceOr, Nat.reduceAnd, Nat.reduceXor, Nat.reduceDiv, if_pos, if_neg, aStore, frz, AV.flat, ↓reduceIte, ne_eq, reduceCtorEq, Int.reduceToNat, Nat.reduceEqDiff, Nat.reduceAdd, Nat.reduceSub, Nat.reduceMul, Int.reduceAdd, Int.reduceMul, Int.reduceSub, Int.reduceLT, Int.reduceLE, Int.reduceEq, Int.reduceNe, Nat.reduceLeDiff, Nat.reduceLT, Int.reduceNeg, Nat.reducePow, Nat.reduceMod, ByteArray.size, d1, d2]))
  refine SWp.loop (α := Nat × Nat) (fun x => mk 24 (1 + 2 * x.1) [(0, .op 1000 0 0), (1, .sc (.int .i64 (v : Int))), (13, int n), (14, int x.1)] [(1000, 0, .row false (wrR x.2 ((i + x.1 + 7) / 8) (i + x.1))), (1001, x.2, .row (nl0 ((i + x.1 + 7) / 8)) ((bytesB (L ++ (digB v n).take x.1)).map u8))])
    (fun x => x.1 ≤ n) (fun x => n - x.1) (0, 0) (Nat.zero_le _) (le_mk rfl ?_ ?_ ?_) ?_
  · exact Nat.le_refl _
  · simp (disch := omega) only [wP, wZ, undef, UInt8.reduceToNat, Nat.reduceOr, Nat.reduceAnd, Nat.reduceXor, Nat.reduceDiv, if_pos, if_neg, aStore, frz, AV.flat, ↓reduceIte, ne_eq, reduceCtorEq, Int.reduceToNat, Nat.reduceEqDiff, Nat.reduceAdd, Nat.reduceSub, Nat.reduceMul, Int.reduceAdd, Int.reduceMul, Int.reduceSub, Int.reduceLT, Int.reduceLE, Int.reduceEq, Int.reduceNe, Nat.reduceLeDiff, Nat.reduceLT, Int.reduceNeg, Nat.reducePow, Nat.reduceMod, ByteArray.size]
  · simp (disch := omega) only [wP, wZ, undef, UInt8.reduceToNat, Nat.reduceOr, Nat.reduceAnd, Nat.reduceXor, Nat.reduceDiv, if_pos, if_neg, aStore, frz, AV.flat, ↓reduceIte, ne_eq, reduceCtorEq, Int.reduceToNat, Nat.reduceEqDiff, Nat.reduceAdd, Nat.reduceSub, Nat.reduceMul, Int.reduceAdd, Int.reduceMul, Int.reduceSub, Int.reduceLT, Int.reduceLE, Int.reduceEq, Int.reduceNe, Nat.reduceLeDiff, Nat.reduceLT, Int.reduceNeg, Nat.reducePow, Nat.reduceMod, ByteArray.size, wrR, List.take_zero, List.append_nil]
    rw [hm, hi]; exact ⟨rfl, rfl⟩
  rintro ⟨k, g⟩ hk -
  simp only at hk
  repeat (first | refine wA ?_ | refine wB ?_ | refine wC rfl ?_ | refine wD rfl ?_ | refine wE ?_ | refine wF (by omega) ?_ | ((first | refine wG ?_ | refine wH ?_ | refine wI ?_ | refine wJ ?_ | refine wK ?_ | refine wL ?_); simp (disch := omega) only [wP, wZ, undef, UInt8.reduceToNat, Nat.reduceOr, Nat.reduceAnd, Nat.reduceXor, Nat.reduceDiv, if_pos, if_neg, aStore, frz, AV.flat, ↓reduceIte, ne_eq, reduceCtorEq, Int.reduceToNat, Nat.reduceEqDiff, Nat.reduceAdd, Nat.reduceSub, Nat.reduceMul, Int.reduceAdd, Int.reduceMul, Int.reduceSub, Int.reduceLT, Int.reduceLE, Int.reduceEq, Int.reduceNe, Nat.reduceLeDiff, Nat.reduceLT, Int.reduceNeg, Nat.reducePow, Nat.reduceMod, ByteArray.size]))
  refine SWp.cond rfl (fun h => ?_) (fun h => ?_)
  · simp only [decide_eq_true_eq] at h
    have hkn : k < n := by omega
    have hs := digB_snoc (v := v) hkn
    obtain ⟨L', hL'⟩ : ∃ L', L' = L ++ (digB v n).take k := ⟨_, rfl⟩
    have hll : L'.length = i + k := by rw [hL', List.length_append, List.length_take, length_digB]; omega
    have hL2 : ∀ x ∈ L', x < 2 := by
      rw [hL']
      intro x hx
      rcases List.mem_append.1 hx with h | h
      · exact hL x h
      · exact digB_lt x (List.mem_of_mem_take h)
    obtain ⟨y, hy⟩ : ∃ y, y = v / 2 ^ k := ⟨_, rfl⟩
    rw [← hy] at hs
    have hyv : y < 16777216 := by rw [hy]; exact Nat.lt_of_le_of_lt (Nat.div_le_self _ _) hv
    have hbit := huff_wbit_h L' (by omega) hL2 ((i + k + 7) / 8) (i + k) (by rw [hll]) hll.symm (y % 2) (Nat.mod_lt _ (by omega))
    have hs2 : L ++ (digB v n).take (k + 1) = L' ++ [y % 2] := by rw [hs, hL', List.append_assoc]
    rw [← hL']
    have e78 : i + (k + 1) + 7 = i + k + 8 := by omega
    have hnl : nl0 ((i + k + 8) / 8) = false := nl0_pos (by omega)
    repeat (first | refine wA ?_ | refine wB ?_ | refine wC rfl ?_ | refine wD rfl ?_ | refine wE ?_ | refine wF (by omega) ?_ | ((first | refine wG ?_ | refine wH ?_ | refine wI ?_ | refine wJ ?_ | refine wK ?_ | refine wL ?_); simp (disch := omega) only [wP, wZ, undef, UInt8.reduceToNat, Nat.reduceOr, Nat.reduceAnd, Nat.reduceXor, Nat.reduceDiv, if_pos, if_neg, aStore, frz, AV.flat, ↓reduceIte, ne_eq, reduceCtorEq, Int.reduceToNat, Nat.reduceEqDiff, Nat.reduceAdd, Nat.reduceSub, Nat.reduceMul, Int.reduceAdd, Int.reduceMul, Int.reduceSub, Int.reduceLT, Int.reduceLE, Int.reduceEq, Int.reduceNe, Nat.reduceLeDiff, Nat.reduceLT, Int.reduceNeg, Nat.reducePow, Nat.reduceMod, ByteArray.size, ← hy, wrR]))
    refine goC_h [(1000, 0), (1001, g)] 2000 hbit (by simp) (by simp) ?_ ?_ ?_
    iterate 2 (case _ => simp (disch := omega) only [wP, wZ, undef, UInt8.reduceToNat, Nat.reduceOr, Nat.reduceAnd, Nat.reduceXor, Nat.reduceDiv, if_pos, if_neg, aStore, frz, AV.flat, ↓reduceIte, ne_eq, reduceCtorEq, Int.reduceToNat, Nat.reduceEqDiff, Nat.reduceAdd, Nat.reduceSub, Nat.reduceMul, Int.reduceAdd, Int.reduceMul, Int.reduceSub, Int.reduceLT, Int.reduceLE, Int.reduceEq, Int.reduceNe, Nat.reduceLeDiff, Nat.reduceLT, Int.reduceNeg, Nat.reducePow, Nat.reduceMod, ByteArray.size, wrR, iR])
    repeat (first | refine wA ?_ | refine wB ?_ | refine wC rfl ?_ | refine wD rfl ?_ | refine wE ?_ | refine wF (by omega) ?_ | ((first | refine wG ?_ | refine wH ?_ | refine wI ?_ | refine wJ ?_ | refine wK ?_ | refine wL ?_); simp (disch := omega) only [wP, wZ, undef, UInt8.reduceToNat, Nat.reduceOr, Nat.reduceAnd, Nat.reduceXor, Nat.reduceDiv, if_pos, if_neg, aStore, frz, AV.flat, ↓reduceIte, ne_eq, reduceCtorEq, Int.reduceToNat, Nat.reduceEqDiff, Nat.reduceAdd, Nat.reduceSub, Nat.reduceMul, Int.reduceAdd, Int.reduceMul, Int.reduceSub, Int.reduceLT, Int.reduceLE, Int.reduceEq, Int.reduceNe, Nat.reduceLeDiff, Nat.reduceLT, Int.reduceNeg, Nat.reducePow, Nat.reduceMod, ByteArray.size, wrR, iR]))
    refine At.of (k + 1, 1 + 2 * k + 1) (by simp only; omega) (by simp only; omega) rfl rfl ?_ ?_ ?_
    · simp only; omega
    iterate 2 (case _ => simp (disch := omega) only [wP, wZ, undef, UInt8.reduceToNat, Nat.reduceOr, Nat.reduceAnd, Nat.reduceXor, Nat.reduceDiv, if_pos, if_neg, aStore, frz, AV.flat, ↓reduceIte, ne_eq, reduceCtorEq, Int.reduceToNat, Nat.reduceEqDiff, Nat.reduceAdd, Nat.reduceSub, Nat.reduceMul, Int.reduceAdd, Int.reduceMul, Int.reduceSub, Int.reduceLT, Int.reduceLE, Int.reduceEq, Int.reduceNe, Nat.reduceLeDiff, Nat.reduceLT, Int.reduceNeg, Nat.reducePow, Nat.reduceMod, ByteArray.size, wrR, hs2, e78, hnl, Int.add_assoc])
  · simp only [decide_eq_false_iff_not] at h
    obtain rfl : k = n := by omega
    have ht : (digB v k).take k = digB v k := List.take_of_length_le (by rw [length_digB]; exact Nat.le_refl _)
    rw [ht]
    refine SWp.le (le_mk (N := 24) (gc := 60) (l := []) (h := [(1000, 0, .row false (wrR g ((i + k + 7) / 8) (i + k))), (1001, g, .row (nl0 ((i + k + 7) / 8)) ((bytesB (L ++ digB v k)).map u8))]) rfl ?_ ?_ ?_) ?_
    · simp (disch := omega) only [wP, wZ, undef, UInt8.reduceToNat, Nat.reduceOr, Nat.reduceAnd, Nat.reduceXor, Nat.reduceDiv, if_pos, if_neg, aStore, frz, AV.flat, ↓reduceIte, ne_eq, reduceCtorEq, Int.reduceToNat, Nat.reduceEqDiff, Nat.reduceAdd, Nat.reduceSub, Nat.reduceMul, Int.reduceAdd, Int.reduceMul, Int.reduceSub, Int.reduceLT, Int.reduceLE, Int.reduceEq, Int.reduceNe, Nat.reduceLeDiff, Nat.reduceLT, Int.reduceNeg, Nat.reducePow, Nat.reduceMod, ByteArray.size]
      omega
    iterate 2 (case _ => simp (disch := omega) only [wP, wZ, undef, UInt8.reduceToNat, Nat.reduceOr, Nat.reduceAnd, Nat.reduceXor, Nat.reduceDiv, if_pos, if_neg, aStore, frz, AV.flat, ↓reduceIte, ne_eq, reduceCtorEq, Int.reduceToNat, Nat.reduceEqDiff, Nat.reduceAdd, Nat.reduceSub, Nat.reduceMul, Int.reduceAdd, Int.reduceMul, Int.reduceSub, Int.reduceLT, Int.reduceLE, Int.reduceEq, Int.reduceNe, Nat.reduceLeDiff, Nat.reduceLT, Int.reduceNeg, Nat.reducePow, Nat.reduceMod, ByteArray.size])
    refine SWp.renew 1001 g (o := .row (nl0 ((i + k + 7) / 8)) ((bytesB (L ++ digB v k)).map u8)) (by simp (disch := omega) only [wP, wZ, undef, UInt8.reduceToNat, Nat.reduceOr, Nat.reduceAnd, Nat.reduceXor, Nat.reduceDiv, if_pos, if_neg, aStore, frz, AV.flat, ↓reduceIte, ne_eq, reduceCtorEq, Int.reduceToNat, Nat.reduceEqDiff, Nat.reduceAdd, Nat.reduceSub, Nat.reduceMul, Int.reduceAdd, Int.reduceMul, Int.reduceSub, Int.reduceLT, Int.reduceLE, Int.reduceEq, Int.reduceNe, Nat.reduceLeDiff, Nat.reduceLT, Int.reduceNeg, Nat.reducePow, Nat.reduceMod, ByteArray.size]) ?_
    refine SWp.le (le_mk (N := 24) (gc := 61) (l := []) (h := [(1000, 0, .row false (wrR 60 ((i + k + 7) / 8) (i + k))), (1001, 60, .row (nl0 ((i + k + 7) / 8)) ((bytesB (L ++ digB v k)).map u8))]) rfl ?_ ?_ ?_) ?_
    iterate 3 (case _ => simp (disch := omega) only [wP, wZ, undef, UInt8.reduceToNat, Nat.reduceOr, Nat.reduceAnd, Nat.reduceXor, Nat.reduceDiv, if_pos, if_neg, aStore, frz, AV.flat, ↓reduceIte, ne_eq, reduceCtorEq, Int.reduceToNat, Nat.reduceEqDiff, Nat.reduceAdd, Nat.reduceSub, Nat.reduceMul, Int.reduceAdd, Int.reduceMul, Int.reduceSub, Int.reduceLT, Int.reduceLE, Int.reduceEq, Int.reduceNe, Nat.reduceLeDiff, Nat.reduceLT, Int.reduceNeg, Nat.reducePow, Nat.reduceMod, ByteArray.size, wrR, rgH_at, rgn_eq])
    repeat (first | refine wA ?_ | refine wB ?_ | refine wC rfl ?_ | refine wD rfl ?_ | refine wE ?_ | refine wF (by omega) ?_ | ((first | refine wG ?_ | refine wH ?_ | refine wI ?_ | refine wJ ?_ | refine wK ?_ | refine wL ?_); simp (disch := omega) only [wP, wZ, undef, UInt8.reduceToNat, Nat.reduceOr, Nat.reduceAnd, Nat.reduceXor, Nat.reduceDiv, if_pos, if_neg, aStore, frz, AV.flat, ↓reduceIte, ne_eq, reduceCtorEq, Int.reduceToNat, Nat.reduceEqDiff, Nat.reduceAdd, Nat.reduceSub, Nat.reduceMul, Int.reduceAdd, Int.reduceMul, Int.reduceSub, Int.reduceLT, Int.reduceLE, Int.reduceEq, Int.reduceNe, Nat.reduceLeDiff, Nat.reduceLT, Int.reduceNeg, Nat.reducePow, Nat.reduceMod, ByteArray.size, iR]))
theorem huff_WBytes_h [Tabs Try.prog] (n i : Nat) (b : List UInt8) (hb : b.length = n) (hn : n ≤ 1000000) : HCon Try.prog n_huff_Writer_Bytes [.op 1000 0 0] [.row false (wrR 0 n i), .row (nl0 n) (b.map u8)] (.sl (nl0 n) none (b.map u8)) [(1000, 0, .row false (wrR 0 n i)), (1001, 0, .row (nl0 n) (b.map u8))] 10 := by
  refine HCon.of' mix Try.func26 rfl Try.ntmps26 e_huff_Writer_Bytes r_huff_Writer_Bytes (by simp) (by simp [AV.gl, AV.gl.glL]) wr_gl ?_
  unfold s_huff_Writer_Bytes
  have hnl : nl0 n = true → b = [] := by
    intro h
    cases n with
    | zero => exact List.eq_nil_of_length_eq_zero hb
    | succ n => simp [nl0] at h
  have hcl := bytes_Clone_h (nl0 n) b (by omega) hnl
  rw [hb] at hcl
  repeat (first | refine wA ?_ | refine wB ?_ | refine wC rfl ?_ | refine wD rfl ?_ | refine wE ?_ | refine wF (by omega) ?_ | ((first | refine wG ?_ | refine wH ?_ | refine wI ?_ | refine wJ ?_ | refine wK ?_ | refine wL ?_); simp (disch := omega) only [wP, wZ, undef, UInt8.reduceToNat, Nat.reduceOr, Nat.reduceAnd, Nat.reduceXor, Nat.reduceDiv, if_pos, if_neg, aStore, frz, AV.flat, ↓reduceIte, ne_eq, reduceCtorEq, Int.reduceToNat, Nat.reduceEqDiff, Nat.reduceAdd, Nat.reduceSub, Nat.reduceMul, Int.reduceAdd, Int.reduceMul, Int.reduceSub, Int.reduceLT, Int.reduceLE, Int.reduceEq, Int.reduceNe, Nat.reduceLeDiff, Nat.reduceLT, Int.reduceNeg, Nat.reducePow, Nat.reduceMod, ByteArray.size, wrR]))
  refine goC_hB [] 2000 hcl (by simp) (by simp) ?_ ?_ rfl ?_ ?_
  · simp (disch := omega) only [wP, wZ, undef, UInt8.reduceToNat, Nat.reduceOr, Nat.reduceAnd, Nat.reduceXor, Nat.reduceDiv, if_pos, if_neg, aStore, frz, AV.flat, ↓reduceIte, ne_eq, reduceCtorEq, Int.reduceToNat, Nat.reduceEqDiff, Nat.reduceAdd, Nat.reduceSub, Nat.reduceMul, Int.reduceAdd, Int.reduceMul, Int.reduceSub, Int.reduceLT, Int.reduceLE, Int.reduceEq, Int.reduceNe, Nat.reduceLeDiff, Nat.reduceLT, Int.reduceNeg, Nat.reducePow, Nat.reduceMod, ByteArray.size]
  · refine ⟨.inr ⟨?_, ?_⟩, trivial⟩
    · simp (disch := omega) only [wP, wZ, undef, UInt8.reduceToNat, Nat.reduceOr, Nat.reduceAnd, Nat.reduceXor, Nat.reduceDiv, if_pos, if_neg, aStore, frz, AV.flat, ↓reduceIte, ne_eq, reduceCtorEq, Int.reduceToNat, Nat.reduceEqDiff, Nat.reduceAdd, Nat.reduceSub, Nat.reduceMul, Int.reduceAdd, Int.reduceMul, Int.reduceSub, Int.reduceLT, Int.reduceLE, Int.reduceEq, Int.reduceNe, Nat.reduceLeDiff, Nat.reduceLT, Int.reduceNeg, Nat.reducePow, Nat.reduceMod, ByteArray.size, hb]
    · simp only [AV.free, free_u8]
  · simp only [foH, foL_b8, Bool.and_self]
  iterate 1 (first | refine wA ?_ | refine wB ?_ | refine wC rfl ?_ | refine wD rfl ?_ | refine wE ?_ | refine wF (by omega) ?_ | ((first | refine wG ?_ | refine wH ?_ | refine wI ?_ | refine wJ ?_ | refine wK ?_ | refine wL ?_); simp (disch := omega) only [wP, wZ, undef, UInt8.reduceToNat, Nat.reduceOr, Nat.reduceAnd, Nat.reduceXor, Nat.reduceDiv, if_pos, if_neg, aStore, frz, AV.flat, ↓reduceIte, ne_eq, reduceCtorEq, Int.reduceToNat, Nat.reduceEqDiff, Nat.reduceAdd, Nat.reduceSub, Nat.reduceMul, Int.reduceAdd, Int.reduceMul, Int.reduceSub, Int.reduceLT, Int.reduceLE, Int.reduceEq, Int.reduceNe, Nat.reduceLeDiff, Nat.reduceLT, Int.reduceNeg, Nat.reducePow, Nat.reduceMod, ByteArray.size, wrR]))
  refine SWp.frzo 2005 3 (nl := nl0 n) (cells := b.map u8) (by simp (disch := omega) only [wP, wZ, undef, UInt8.reduceToNat, Nat.reduceOr, Nat.reduceAnd, Nat.reduceXor, Nat.reduceDiv, if_pos, if_neg, aStore, frz, AV.flat, ↓reduceIte, ne_eq, reduceCtorEq, Int.reduceToNat, Nat.reduceEqDiff, Nat.reduceAdd, Nat.reduceSub, Nat.reduceMul, Int.reduceAdd, Int.reduceMul, Int.reduceSub, Int.reduceLT, Int.reduceLE, Int.reduceEq, Int.reduceNe, Nat.reduceLeDiff, Nat.reduceLT, Int.reduceNeg, Nat.reducePow, Nat.reduceMod, ByteArray.size]) free_u8 ?_
  refine SWp.le (le_mk (N := 8) (gc := 4) (l := [(2, .sl (nl0 n) none (b.map u8))]) (h := [(1000, 0, .row false (wrR 0 n i)), (1001, 0, .row (nl0 n) (b.map u8))]) rfl ?_ ?_ ?_) ?_
  iterate 3 (case _ => simp (disch := omega) only [wP, wZ, undef, UInt8.reduceToNat, Nat.reduceOr, Nat.reduceAnd, Nat.reduceXor, Nat.reduceDiv, if_pos, if_neg, aStore, frz, AV.flat, ↓reduceIte, ne_eq, reduceCtorEq, Int.reduceToNat, Nat.reduceEqDiff, Nat.reduceAdd, Nat.reduceSub, Nat.reduceMul, Int.reduceAdd, Int.reduceMul, Int.reduceSub, Int.reduceLT, Int.reduceLE, Int.reduceEq, Int.reduceNe, Nat.reduceLeDiff, Nat.reduceLT, Int.reduceNeg, Nat.reducePow, Nat.reduceMod, ByteArray.size, fR, hb, wrR])
  repeat (first | refine wA ?_ | refine wB ?_ | refine wC rfl ?_ | refine wD rfl ?_ | refine wE ?_ | refine wF (by omega) ?_ | ((first | refine wG ?_ | refine wH ?_ | refine wI ?_ | refine wJ ?_ | refine wK ?_ | refine wL ?_); simp (disch := omega) only [wP, wZ, undef, UInt8.reduceToNat, Nat.reduceOr, Nat.reduceAnd, Nat.reduceXor, Nat.reduceDiv, if_pos, if_neg, aStore, frz, AV.flat, ↓reduceIte, ne_eq, reduceCtorEq, Int.reduceToNat, Nat.reduceEqDiff, Nat.reduceAdd, Nat.reduceSub, Nat.reduceMul, Int.reduceAdd, Int.reduceMul, Int.reduceSub, Int.reduceLT, Int.reduceLE, Int.reduceEq, Int.reduceNe, Nat.reduceLeDiff, Nat.reduceLT, Int.reduceNeg, Nat.reducePow, Nat.reduceMod, ByteArray.size, wrR]))
end Go.Proofs.Ytbmppmdklappiaa.Aw
