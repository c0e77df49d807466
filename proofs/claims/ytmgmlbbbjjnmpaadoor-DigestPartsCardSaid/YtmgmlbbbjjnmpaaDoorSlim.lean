/-
  THE SLIM CODE of functions of the program, printed by a program of mine and held by the kernel.
-/
import Derived.Test.YtmgmlbbbjjnmpaaDoorAwV
import Derived.Test.YtmgmlbbbjjnmpaaDoorProg
namespace Go.Proofs.YtmgmlbbbjjnmpaaDoor.Aw
open Go
set_option maxRecDepth 100000
set_option linter.unusedSimpArgs false
abbrev n_bits_RotateLeft32 : Nat := 39
abbrev n_codec_Be : Nat := 36
abbrev n_codec_GetBe : Nat := 46
abbrev n_codec_GetLe : Nat := 37
abbrev n_codec_Le : Nat := 35
abbrev n_codec_stands : Nat := 45
abbrev n_digest_Crc : Nat := 8
abbrev n_digest_CrcMore : Nat := 10
abbrev n_digest_Hash_Sum : Nat := 15
abbrev n_digest_Hash_Write : Nat := 14
abbrev n_digest_Hash_end : Nat := 25
abbrev n_digest_Hash_number : Nat := 26
abbrev n_digest_Hash_take : Nat := 24
abbrev n_digest_New : Nat := 13
abbrev n_digest_Of : Nat := 11
abbrev n_digest_add : Nat := 40
abbrev n_digest_md5Mix : Nat := 38
abbrev n_digest_putWords : Nat := 41
abbrev n_digest_right : Nat := 43
abbrev n_digest_sha1Mix : Nat := 42
abbrev n_digest_start : Nat := 23
abbrev n_digest_takeMd5 : Nat := 32
abbrev n_digest_takeSha1 : Nat := 33
abbrev n_digest_takeSha256 : Nat := 34
abbrev n_drayagelaw02_DigestCrc : Nat := 3
abbrev n_drayagelaw02_DigestOf : Nat := 4
abbrev n_drayagelaw02_DigestParts : Nat := 5
abbrev n_drayagelaw02_DigestTells : Nat := 6
abbrev n_drayagelaw02_awake : Nat := 7
abbrev n_drayageref01_Be : Nat := 21
abbrev n_drayageref01_GetBe : Nat := 27
abbrev n_drayageref01_GetLe : Nat := 28
abbrev n_drayageref01_Turned : Nat := 22
abbrev n_drayageref02_Crc : Nat := 9
abbrev n_drayageref02_Of : Nat := 12
abbrev n_drayageref02_left : Nat := 29
abbrev n_drayageref02_md5 : Nat := 18
abbrev n_drayageref02_right : Nat := 31
abbrev n_drayageref02_sha1 : Nat := 19
abbrev n_drayageref02_sha256 : Nat := 20
abbrev n_drayageref02_turn : Nat := 30
abbrev n_drayageref02_whole : Nat := 16
abbrev n_drayageref02_wordsOf : Nat := 17
abbrev n_slices_Reversebytebyte : Nat := 44
theorem mix : Tryd.prog.follows .mixedOrders = true := by kernel_rfl
/-- The slim code of drayage/drayagelaw02.DigestCrc. -/
def s_drayagelaw02_DigestCrc : SCode :=
  (.seq (.reg [⟨(some 4), .mv (.const (.bool false)), none⟩])
  (.seq (.seq (.reg [⟨(some 6), .call true n_drayagelaw02_awake [], none⟩,
    ⟨(some 7), .un .not (T 6), none⟩])
  (.cond (T 7)
    (.seq (.reg [⟨(some 4), .mv (.const (.bool false)), none⟩])
    .ret)
    .skip))
  (.seq (.seq (.reg [⟨(some 8), .mv (T 0), none⟩,
    ⟨(some 9), .len false (T 8), none⟩,
    ⟨(some 10), .bin .gtr (T 9) (C (3000)), none⟩,
    ⟨(some 11), .mv (T 10), none⟩,
    ⟨(some 12), .mv (T 1), (some (11, false))⟩,
    ⟨(some 13), .len false (T 12), (some (11, false))⟩,
    ⟨(some 14), .bin .gtr (T 13) (C (3000)), (some (11, false))⟩,
    ⟨(some 15), .pick (T 11) (.const (.bool true)) (T 14), none⟩])
  (.cond (T 15)
    (.seq (.reg [⟨(some 4), .mv (.const (.bool true)), none⟩])
    .ret)
    .skip))
  (.seq (.reg [⟨(some 16), .emp none, none⟩,
    ⟨(some 17), .mv (T 0), none⟩,
    ⟨(some 18), .app none 1 (T 16) (T 17), none⟩,
    ⟨(some 19), .mv (T 1), none⟩,
    ⟨(some 20), .app none 1 (T 18) (T 19), none⟩,
    ⟨(some 5), .mv (T 20), none⟩])
  (.seq (.reg [⟨(some 21), .mv (T 0), none⟩,
    ⟨(some 22), .call true n_digest_Crc [(T 21)], none⟩,
    ⟨(some 23), .mv (T 0), none⟩,
    ⟨(some 24), .call true n_drayageref02_Crc [(T 23)], none⟩,
    ⟨(some 25), .bin .eql (T 22) (T 24), none⟩,
    ⟨(some 26), .mv (T 25), none⟩,
    ⟨(some 27), .mv (T 0), (some (26, true))⟩,
    ⟨(some 28), .call true n_digest_Crc [(T 27)], (some (26, true))⟩,
    ⟨(some 29), .mv (T 1), (some (26, true))⟩,
    ⟨(some 30), .call true n_digest_CrcMore [(T 28), (T 29)], (some (26, true))⟩,
    ⟨(some 31), .mv (T 5), (some (26, true))⟩,
    ⟨(some 32), .call true n_drayageref02_Crc [(T 31)], (some (26, true))⟩,
    ⟨(some 33), .bin .eql (T 30) (T 32), (some (26, true))⟩,
    ⟨(some 34), .pick (T 26) (T 33) (.const (.bool false)), none⟩,
    ⟨(some 4), .mv (T 34), none⟩])
  .ret)))))
theorem e_drayagelaw02_DigestCrc : slimC Tryd.prog 35 (Tryd.f3.body.getD .skip) = s_drayagelaw02_DigestCrc := by kernel_rfl
theorem r_drayagelaw02_DigestCrc : slimRes Tryd.prog Tryd.f3 = some [.tmp 4] := by kernel_rfl

/-- The slim code of drayage/drayagelaw02.DigestOf. -/
def s_drayagelaw02_DigestOf : SCode :=
  (.seq (.reg [⟨(some 4), .mv (.const (.bool false)), none⟩])
  (.seq (.seq (.reg [⟨(some 5), .call true n_drayagelaw02_awake [], none⟩,
    ⟨(some 6), .un .not (T 5), none⟩])
  (.cond (T 6)
    (.seq (.reg [⟨(some 4), .mv (.const (.bool false)), none⟩])
    .ret)
    .skip))
  (.seq (.seq (.reg [⟨(some 7), .mv (T 1), none⟩,
    ⟨(some 8), .len false (T 7), none⟩,
    ⟨(some 9), .bin .gtr (T 8) (C (3000)), none⟩])
  (.cond (T 9)
    (.seq (.reg [⟨(some 4), .mv (.const (.bool true)), none⟩])
    .ret)
    .skip))
  (.seq (.reg [⟨(some 10), .mv (T 0), none⟩,
    ⟨(some 11), .mv (T 1), none⟩,
    ⟨(some 12), .call false n_digest_Of [(T 10), (T 11)], none⟩,
    ⟨(some 13), .b2s (T 12), none⟩,
    ⟨(some 14), .mv (T 0), none⟩,
    ⟨(some 15), .mv (T 1), none⟩,
    ⟨(some 16), .call false n_drayageref02_Of [(T 14), (T 15)], none⟩,
    ⟨(some 17), .b2s (T 16), none⟩,
    ⟨(some 18), .bin .eql (T 13) (T 17), none⟩,
    ⟨(some 4), .mv (T 18), none⟩])
  .ret))))
theorem e_drayagelaw02_DigestOf : slimC Tryd.prog 19 (Tryd.f4.body.getD .skip) = s_drayagelaw02_DigestOf := by kernel_rfl
theorem r_drayagelaw02_DigestOf : slimRes Tryd.prog Tryd.f4 = some [.tmp 4] := by kernel_rfl

/-- The slim code of drayage/drayagelaw02.DigestParts. -/
def s_drayagelaw02_DigestParts : SCode :=
  (.seq (.reg [⟨(some 4), .mv (.const (.bool false)), none⟩])
  (.seq (.seq (.reg [⟨(some 12), .call true n_drayagelaw02_awake [], none⟩,
    ⟨(some 13), .un .not (T 12), none⟩])
  (.cond (T 13)
    (.seq (.reg [⟨(some 4), .mv (.const (.bool false)), none⟩])
    .ret)
    .skip))
  (.seq (.seq (.reg [⟨(some 14), .mv (T 1), none⟩,
    ⟨(some 15), .len false (T 14), none⟩,
    ⟨(some 16), .bin .gtr (T 15) (C (30)), none⟩])
  (.cond (T 16)
    (.seq (.reg [⟨(some 4), .mv (.const (.bool true)), none⟩])
    .ret)
    .skip))
  (.seq (.reg [⟨(some 18), .mv (T 0), none⟩,
    ⟨(some 19), .call true n_digest_New [(T 18)], none⟩,
    ⟨(some 17), .mv (T 19), none⟩,
    ⟨(some 20), .ext (T 17) 0, none⟩,
    ⟨(some 21), .ext (T 17) 1, none⟩,
    ⟨(some 5), .mv (T 20), none⟩,
    ⟨(some 6), .mv (T 21), none⟩])
  (.seq (.seq (.reg [⟨(some 22), .mv (T 0), none⟩,
    ⟨(some 23), .bin .lss (T 22) (C (1)), none⟩,
    ⟨(some 24), .mv (T 23), none⟩,
    ⟨(some 25), .mv (T 0), (some (24, false))⟩,
    ⟨(some 26), .bin .gtr (T 25) (C (3)), (some (24, false))⟩,
    ⟨(some 27), .pick (T 24) (.const (.bool true)) (T 26), none⟩])
  (.cond (T 27)
    (.seq (.reg [⟨(some 28), .mv (T 5), none⟩,
      ⟨(some 29), .isnilp false (T 28), none⟩,
      ⟨(some 30), .mv (T 29), none⟩,
      ⟨(some 31), .mv (T 6), (some (30, true))⟩,
      ⟨(some 32), .bin .eql (T 31) (C (9)), (some (30, true))⟩,
      ⟨(some 33), .pick (T 30) (T 32) (.const (.bool false)), none⟩,
      ⟨(some 4), .mv (T 33), none⟩])
    .ret)
    .skip))
  (.seq (.seq (.reg [⟨(some 34), .mv (T 5), none⟩,
    ⟨(some 35), .isnilp false (T 34), none⟩,
    ⟨(some 36), .mv (T 35), none⟩,
    ⟨(some 37), .mv (T 6), (some (36, false))⟩,
    ⟨(some 38), .bin .neq (T 37) (C (0)), (some (36, false))⟩,
    ⟨(some 39), .pick (T 36) (.const (.bool true)) (T 38), none⟩])
  (.cond (T 39)
    (.seq (.reg [⟨(some 4), .mv (.const (.bool false)), none⟩])
    .ret)
    .skip))
  (.seq (.reg [⟨(some 7), .mv (.const (.slice none 0 0)), none⟩])
  (.seq (.seq (.reg [⟨(some 8), .mv (C (0)), none⟩])
  (.block 0
    (.loop
      (.seq (.seq (.reg [⟨(some 40), .mv (T 8), none⟩,
        ⟨(some 41), .mv (T 1), none⟩,
        ⟨(some 42), .len false (T 41), none⟩,
        ⟨(some 43), .bin .lss (T 40) (T 42), none⟩])
      (.cond (T 43)
        .skip
        (.exit 0)))
      (.seq (.block 1
        (.seq (.seq (.reg [⟨(some 46), .mv (T 1), none⟩,
          ⟨(some 47), .mv (T 8), none⟩,
          ⟨(some 48), .iaddr none (T 46) (T 47), none⟩,
          ⟨(some 49), .load none (T 48), none⟩,
          ⟨(some 50), .len false (T 49), none⟩,
          ⟨(some 51), .mv (T 7), none⟩,
          ⟨(some 52), .len false (T 51), none⟩,
          ⟨(some 53), .bin .sub (C (3000)) (T 52), none⟩,
          ⟨(some 54), .bin .gtr (T 50) (T 53), none⟩])
        (.cond (T 54)
          (.seq (.reg [⟨(some 4), .mv (.const (.bool true)), none⟩])
          .ret)
          .skip))
        (.seq (.reg [⟨(some 55), .emp none, none⟩,
          ⟨(some 56), .mv (T 1), none⟩,
          ⟨(some 57), .mv (T 8), none⟩,
          ⟨(some 58), .iaddr none (T 56) (T 57), none⟩,
          ⟨(some 59), .load none (T 58), none⟩,
          ⟨(some 60), .app none 1 (T 55) (T 59), none⟩,
          ⟨(some 9), .mv (T 60), none⟩])
        (.seq (.reg [⟨(some 61), .mv (T 5), none⟩,
          ⟨(some 62), .mv (T 9), none⟩,
          ⟨(some 63), .call true n_digest_Hash_Write [(T 61), (T 62)], none⟩])
        (.seq (.reg [⟨(some 64), .mv (T 7), none⟩,
          ⟨(some 65), .mv (T 1), none⟩,
          ⟨(some 66), .mv (T 8), none⟩,
          ⟨(some 67), .iaddr none (T 65) (T 66), none⟩,
          ⟨(some 68), .load none (T 67), none⟩,
          ⟨(some 69), .app none 1 (T 64) (T 68), none⟩,
          ⟨(some 7), .mv (T 69), none⟩])
        (.seq (.seq (.reg [⟨(some 10), .mv (C (0)), none⟩])
        (.block 2
          (.loop
            (.seq (.seq (.reg [⟨(some 70), .mv (T 10), none⟩,
              ⟨(some 71), .mv (T 9), none⟩,
              ⟨(some 72), .len false (T 71), none⟩,
              ⟨(some 73), .bin .lss (T 70) (T 72), none⟩])
            (.cond (T 73)
              .skip
              (.exit 2)))
            (.seq (.block 3
              (.reg [⟨(some 76), .mv (T 9), none⟩,
                ⟨(some 77), .mv (T 10), none⟩,
                ⟨(some 78), .mv (T 9), none⟩,
                ⟨(some 79), .mv (T 10), none⟩,
                ⟨(some 80), .iaddr none (T 78) (T 79), none⟩,
                ⟨(some 81), .load none (T 80), none⟩,
                ⟨(some 82), .bin .xor (T 81) (.const (.int .u8 (255))), none⟩,
                ⟨(some 83), .iaddr none (T 76) (T 77), none⟩,
                ⟨none, .store none (T 83) (T 82), none⟩]))
            (.reg [⟨(some 74), .mv (T 10), none⟩,
              ⟨(some 75), .bin .add (T 74) (C (1)), none⟩,
              ⟨(some 10), .mv (T 75), none⟩]))))))
        (.seq (.reg [⟨(some 84), .mv (T 8), none⟩,
          ⟨(some 85), .bin .rem (T 84) (C (3)), none⟩,
          ⟨(some 86), .bin .eql (T 85) (C (0)), none⟩])
        (.cond (T 86)
          (.seq (.reg [⟨(some 87), .mv (T 5), none⟩,
            ⟨(some 88), .call true n_digest_Hash_Sum [(T 87)], none⟩,
            ⟨(some 11), .mv (T 88), none⟩])
          (.reg [⟨(some 89), .mv (T 11), none⟩,
            ⟨(some 90), .mv (T 11), none⟩,
            ⟨(some 91), .iaddr none (T 90) (C (0)), none⟩,
            ⟨(some 92), .load none (T 91), none⟩,
            ⟨(some 93), .bin .xor (T 92) (.const (.int .u8 (255))), none⟩,
            ⟨(some 94), .iaddr none (T 89) (C (0)), none⟩,
            ⟨none, .store none (T 94) (T 93), none⟩]))
          .skip))))))))
      (.reg [⟨(some 44), .mv (T 8), none⟩,
        ⟨(some 45), .bin .add (T 44) (C (1)), none⟩,
        ⟨(some 8), .mv (T 45), none⟩]))))))
  (.seq (.reg [⟨(some 95), .mv (T 5), none⟩,
    ⟨(some 96), .call false n_digest_Hash_Sum [(T 95)], none⟩,
    ⟨(some 97), .b2s (T 96), none⟩,
    ⟨(some 98), .mv (T 0), none⟩,
    ⟨(some 99), .mv (T 7), none⟩,
    ⟨(some 100), .call false n_drayageref02_Of [(T 98), (T 99)], none⟩,
    ⟨(some 101), .b2s (T 100), none⟩,
    ⟨(some 102), .bin .eql (T 97) (T 101), none⟩,
    ⟨(some 4), .mv (T 102), none⟩])
  .ret)))))))))
theorem e_drayagelaw02_DigestParts : slimC Tryd.prog 103 (Tryd.f5.body.getD .skip) = s_drayagelaw02_DigestParts := by kernel_rfl
theorem r_drayagelaw02_DigestParts : slimRes Tryd.prog Tryd.f5 = some [.tmp 4] := by kernel_rfl

/-- The slim code of drayage/drayagelaw02.DigestTells. -/
def s_drayagelaw02_DigestTells : SCode :=
  (.seq (.reg [⟨(some 6), .mv (.const (.bool false)), none⟩])
  (.seq (.seq (.reg [⟨(some 8), .call true n_drayagelaw02_awake [], none⟩,
    ⟨(some 9), .un .not (T 8), none⟩])
  (.cond (T 9)
    (.seq (.reg [⟨(some 6), .mv (.const (.bool false)), none⟩])
    .ret)
    .skip))
  (.seq (.seq (.reg [⟨(some 10), .mv (T 0), none⟩,
    ⟨(some 11), .len false (T 10), none⟩,
    ⟨(some 12), .bin .gtr (T 11) (C (3000)), none⟩,
    ⟨(some 13), .mv (T 12), none⟩,
    ⟨(some 14), .mv (T 1), (some (13, false))⟩,
    ⟨(some 15), .bin .lss (T 14) (C (0)), (some (13, false))⟩,
    ⟨(some 16), .pick (T 13) (.const (.bool true)) (T 15), none⟩,
    ⟨(some 17), .mv (T 16), none⟩,
    ⟨(some 18), .mv (T 1), (some (17, false))⟩,
    ⟨(some 19), .mv (T 0), (some (17, false))⟩,
    ⟨(some 20), .len false (T 19), (some (17, false))⟩,
    ⟨(some 21), .bin .geq (T 18) (T 20), (some (17, false))⟩,
    ⟨(some 22), .pick (T 17) (.const (.bool true)) (T 21), none⟩,
    ⟨(some 23), .mv (T 22), none⟩,
    ⟨(some 24), .mv (T 2), (some (23, false))⟩,
    ⟨(some 25), .bin .lss (T 24) (C (0)), (some (23, false))⟩,
    ⟨(some 26), .pick (T 23) (.const (.bool true)) (T 25), none⟩,
    ⟨(some 27), .mv (T 26), none⟩,
    ⟨(some 28), .mv (T 2), (some (27, false))⟩,
    ⟨(some 29), .bin .gtr (T 28) (C (7)), (some (27, false))⟩,
    ⟨(some 30), .pick (T 27) (.const (.bool true)) (T 29), none⟩])
  (.cond (T 30)
    (.seq (.reg [⟨(some 6), .mv (.const (.bool true)), none⟩])
    .ret)
    .skip))
  (.seq (.reg [⟨(some 31), .emp none, none⟩,
    ⟨(some 32), .mv (T 0), none⟩,
    ⟨(some 33), .app none 1 (T 31) (T 32), none⟩,
    ⟨(some 7), .mv (T 33), none⟩])
  (.seq (.reg [⟨(some 34), .mv (T 7), none⟩,
    ⟨(some 35), .mv (T 1), none⟩,
    ⟨(some 36), .mv (T 7), none⟩,
    ⟨(some 37), .mv (T 1), none⟩,
    ⟨(some 38), .iaddr none (T 36) (T 37), none⟩,
    ⟨(some 39), .load none (T 38), none⟩,
    ⟨(some 40), .mv (T 2), none⟩,
    ⟨(some 41), .ci .u64 (T 40), none⟩,
    ⟨(some 42), .bin .shl (.const (.int .u8 (1))) (T 41), none⟩,
    ⟨(some 43), .bin .xor (T 39) (T 42), none⟩,
    ⟨(some 44), .iaddr none (T 34) (T 35), none⟩,
    ⟨none, .store none (T 44) (T 43), none⟩])
  (.seq (.reg [⟨(some 45), .mv (T 7), none⟩,
    ⟨(some 46), .call true n_digest_Crc [(T 45)], none⟩,
    ⟨(some 47), .mv (T 0), none⟩,
    ⟨(some 48), .call true n_digest_Crc [(T 47)], none⟩,
    ⟨(some 49), .bin .neq (T 46) (T 48), none⟩,
    ⟨(some 6), .mv (T 49), none⟩])
  .ret))))))
theorem e_drayagelaw02_DigestTells : slimC Tryd.prog 50 (Tryd.f6.body.getD .skip) = s_drayagelaw02_DigestTells := by kernel_rfl
theorem r_drayagelaw02_DigestTells : slimRes Tryd.prog Tryd.f6 = some [.tmp 6] := by kernel_rfl

/-- The slim code of drayage/drayagelaw02.awake. -/
def s_drayagelaw02_awake : SCode :=
  (.seq (.reg [⟨(some 0), .mv (.const (.bool false)), none⟩])
  (.seq (.reg [⟨(some 4), .bsl none [(.const (.int .u8 (97))), (.const (.int .u8 (98))), (.const (.int .u8 (99)))], none⟩,
    ⟨(some 5), .strz (T 4), none⟩,
    ⟨(some 6), .call true n_digest_Of [(C (1)), (T 5)], none⟩,
    ⟨(some 7), .bsl none [(.const (.int .u8 (97))), (.const (.int .u8 (98))), (.const (.int .u8 (99)))], none⟩,
    ⟨(some 8), .strz (T 7), none⟩,
    ⟨(some 9), .call true n_digest_Of [(C (2)), (T 8)], none⟩,
    ⟨(some 10), .bsl none [(.const (.int .u8 (97))), (.const (.int .u8 (98))), (.const (.int .u8 (99)))], none⟩,
    ⟨(some 11), .strz (T 10), none⟩,
    ⟨(some 12), .call true n_digest_Of [(C (3)), (T 11)], none⟩,
    ⟨(some 1), .mv (T 6), none⟩,
    ⟨(some 2), .mv (T 9), none⟩,
    ⟨(some 3), .mv (T 12), none⟩])
  (.seq (.reg [⟨(some 13), .mv (T 1), none⟩,
    ⟨(some 14), .len false (T 13), none⟩,
    ⟨(some 15), .bin .eql (T 14) (C (16)), none⟩,
    ⟨(some 16), .mv (T 15), none⟩,
    ⟨(some 17), .mv (T 1), (some (16, true))⟩,
    ⟨(some 18), .sl none (T 17) none (some (C (4))), (some (16, true))⟩,
    ⟨(some 19), .b2s (T 18), (some (16, true))⟩,
    ⟨(some 20), .bin .eql (T 19) (.const (.string ⟨#[144, 1, 80, 152]⟩)), (some (16, true))⟩,
    ⟨(some 21), .pick (T 16) (T 20) (.const (.bool false)), none⟩,
    ⟨(some 22), .mv (T 21), none⟩,
    ⟨(some 23), .mv (T 2), (some (22, true))⟩,
    ⟨(some 24), .len false (T 23), (some (22, true))⟩,
    ⟨(some 25), .bin .eql (T 24) (C (20)), (some (22, true))⟩,
    ⟨(some 26), .pick (T 22) (T 25) (.const (.bool false)), none⟩,
    ⟨(some 27), .mv (T 26), none⟩,
    ⟨(some 28), .mv (T 2), (some (27, true))⟩,
    ⟨(some 29), .sl none (T 28) none (some (C (4))), (some (27, true))⟩,
    ⟨(some 30), .b2s (T 29), (some (27, true))⟩,
    ⟨(some 31), .bin .eql (T 30) (.const (.string ⟨#[169, 153, 62, 54]⟩)), (some (27, true))⟩,
    ⟨(some 32), .pick (T 27) (T 31) (.const (.bool false)), none⟩,
    ⟨(some 33), .mv (T 32), none⟩,
    ⟨(some 34), .mv (T 3), (some (33, true))⟩,
    ⟨(some 35), .len false (T 34), (some (33, true))⟩,
    ⟨(some 36), .bin .eql (T 35) (C (32)), (some (33, true))⟩,
    ⟨(some 37), .pick (T 33) (T 36) (.const (.bool false)), none⟩,
    ⟨(some 38), .mv (T 37), none⟩,
    ⟨(some 39), .mv (T 3), (some (38, true))⟩,
    ⟨(some 40), .sl none (T 39) none (some (C (4))), (some (38, true))⟩,
    ⟨(some 41), .b2s (T 40), (some (38, true))⟩,
    ⟨(some 42), .bin .eql (T 41) (.const (.string ⟨#[186, 120, 22, 191]⟩)), (some (38, true))⟩,
    ⟨(some 43), .pick (T 38) (T 42) (.const (.bool false)), none⟩,
    ⟨(some 44), .mv (T 43), none⟩,
    ⟨(some 45), .bsl none [(.const (.int .u8 (49))), (.const (.int .u8 (50))), (.const (.int .u8 (51))), (.const (.int .u8 (52))), (.const (.int .u8 (53))), (.const (.int .u8 (54))), (.const (.int .u8 (55))), (.const (.int .u8 (56))), (.const (.int .u8 (57)))], (some (44, true))⟩,
    ⟨(some 46), .strz (T 45), (some (44, true))⟩,
    ⟨(some 47), .call true n_digest_Crc [(T 46)], (some (44, true))⟩,
    ⟨(some 48), .bin .eql (T 47) (.const (.int .u32 (3421780262))), (some (44, true))⟩,
    ⟨(some 49), .pick (T 44) (T 48) (.const (.bool false)), none⟩,
    ⟨(some 0), .mv (T 49), none⟩])
  .ret)))
theorem e_drayagelaw02_awake : slimC Tryd.prog 50 (Tryd.f7.body.getD .skip) = s_drayagelaw02_awake := by kernel_rfl
theorem r_drayagelaw02_awake : slimRes Tryd.prog Tryd.f7 = some [.tmp 0] := by kernel_rfl

/-- The slim code of drayage/digest.Crc. -/
def s_digest_Crc : SCode :=
  (.seq (.reg [⟨(some 2), .mv (.const (.int .u32 (0))), none⟩])
  (.seq (.reg [⟨(some 3), .mv (T 0), none⟩,
    ⟨(some 4), .call true n_digest_CrcMore [(.const (.int .u32 (0))), (T 3)], none⟩,
    ⟨(some 2), .mv (T 4), none⟩])
  .ret))
theorem e_digest_Crc : slimC Tryd.prog 5 (Tryd.f8.body.getD .skip) = s_digest_Crc := by kernel_rfl
theorem r_digest_Crc : slimRes Tryd.prog Tryd.f8 = some [.tmp 2] := by kernel_rfl

/-- The slim code of drayage/drayageref02.Crc. -/
def s_drayageref02_Crc : SCode :=
  (.seq (.reg [⟨(some 2), .mv (.const (.int .u32 (0))), none⟩])
  (.seq (.reg [⟨(some 3), .mv (.const (.int .u32 (4294967295))), none⟩])
  (.seq (.seq (.reg [⟨(some 4), .mv (C (0)), none⟩])
  (.block 0
    (.loop
      (.seq (.seq (.reg [⟨(some 7), .mv (T 4), none⟩,
        ⟨(some 8), .mv (T 0), none⟩,
        ⟨(some 9), .len false (T 8), none⟩,
        ⟨(some 10), .bin .lss (T 7) (T 9), none⟩])
      (.cond (T 10)
        .skip
        (.exit 0)))
      (.seq (.block 1
        (.seq (.reg [⟨(some 13), .mv (T 3), none⟩,
          ⟨(some 14), .mv (T 0), none⟩,
          ⟨(some 15), .mv (T 4), none⟩,
          ⟨(some 16), .iaddr none (T 14) (T 15), none⟩,
          ⟨(some 17), .load none (T 16), none⟩,
          ⟨(some 18), .ci .u32 (T 17), none⟩,
          ⟨(some 19), .bin .xor (T 13) (T 18), none⟩,
          ⟨(some 3), .mv (T 19), none⟩])
        (.seq (.reg [⟨(some 5), .mv (C (0)), none⟩])
        (.block 2
          (.loop
            (.seq (.seq (.reg [⟨(some 20), .mv (T 5), none⟩,
              ⟨(some 21), .bin .lss (T 20) (C (8)), none⟩])
            (.cond (T 21)
              .skip
              (.exit 2)))
            (.seq (.block 3
              (.seq (.reg [⟨(some 24), .mv (T 3), none⟩,
                ⟨(some 25), .bin .rem (T 24) (.const (.int .u32 (2))), none⟩,
                ⟨(some 26), .bin .eql (T 25) (.const (.int .u32 (1))), none⟩,
                ⟨(some 6), .mv (T 26), none⟩])
              (.seq (.reg [⟨(some 27), .mv (T 3), none⟩,
                ⟨(some 28), .bin .quo (T 27) (.const (.int .u32 (2))), none⟩,
                ⟨(some 3), .mv (T 28), none⟩])
              (.seq (.reg [⟨(some 29), .mv (T 6), none⟩])
              (.cond (T 29)
                (.reg [⟨(some 30), .mv (T 3), none⟩,
                  ⟨(some 31), .bin .xor (T 30) (.const (.int .u32 (3988292384))), none⟩,
                  ⟨(some 3), .mv (T 31), none⟩])
                .skip)))))
            (.reg [⟨(some 22), .mv (T 5), none⟩,
              ⟨(some 23), .bin .add (T 22) (C (1)), none⟩,
              ⟨(some 5), .mv (T 23), none⟩]))))))))
      (.reg [⟨(some 11), .mv (T 4), none⟩,
        ⟨(some 12), .bin .add (T 11) (C (1)), none⟩,
        ⟨(some 4), .mv (T 12), none⟩]))))))
  (.seq (.reg [⟨(some 32), .mv (T 3), none⟩,
    ⟨(some 33), .un .xor (T 32), none⟩,
    ⟨(some 2), .mv (T 33), none⟩])
  .ret))))
theorem e_drayageref02_Crc : slimC Tryd.prog 34 (Tryd.f9.body.getD .skip) = s_drayageref02_Crc := by kernel_rfl
theorem r_drayageref02_Crc : slimRes Tryd.prog Tryd.f9 = some [.tmp 2] := by kernel_rfl

/-- The slim code of drayage/digest.CrcMore. -/
def s_digest_CrcMore : SCode :=
  (.seq (.reg [⟨(some 4), .mv (.const (.int .u32 (0))), none⟩])
  (.seq (.reg [⟨(some 9), .mv (T 0), none⟩,
    ⟨(some 10), .un .xor (T 9), none⟩,
    ⟨(some 5), .mv (T 10), none⟩])
  (.seq (.seq (.reg [⟨(some 11), .mv (T 1), none⟩,
    ⟨(some 12), .len false (T 11), none⟩,
    ⟨(some 13), .mv (C (0)), none⟩])
  (.block 0
    (.loop
      (.seq (.reg [⟨(some 14), .bin .lss (T 13) (T 12), none⟩])
      (.seq (.cond (T 14)
        .skip
        (.exit 0))
      (.seq (.block 1
        (.seq (.reg [⟨(some 15), .iaddr none (T 11) (T 13), none⟩,
          ⟨(some 16), .load none (T 15), none⟩,
          ⟨(some 7), .mv (T 16), none⟩])
        (.seq (.reg [⟨(some 17), .mv (T 5), none⟩,
          ⟨(some 18), .mv (T 7), none⟩,
          ⟨(some 19), .ci .u32 (T 18), none⟩,
          ⟨(some 20), .bin .xor (T 17) (T 19), none⟩,
          ⟨(some 5), .mv (T 20), none⟩])
        (.seq (.reg [⟨(some 21), .mv (C (0)), none⟩])
        (.block 2
          (.loop
            (.seq (.reg [⟨(some 22), .bin .lss (T 21) (C (8)), none⟩])
            (.seq (.cond (T 22)
              .skip
              (.exit 2))
            (.seq (.block 3
              (.seq (.reg [⟨(some 23), .mv (T 5), none⟩,
                ⟨(some 24), .bin .and (T 23) (.const (.int .u32 (1))), none⟩,
                ⟨(some 8), .mv (T 24), none⟩])
              (.seq (.reg [⟨(some 25), .mv (T 5), none⟩,
                ⟨(some 26), .bin .shr (T 25) (.const (.int .u64 (1))), none⟩,
                ⟨(some 5), .mv (T 26), none⟩])
              (.seq (.reg [⟨(some 27), .mv (T 8), none⟩,
                ⟨(some 28), .bin .neq (T 27) (.const (.int .u32 (0))), none⟩])
              (.cond (T 28)
                (.reg [⟨(some 29), .mv (T 5), none⟩,
                  ⟨(some 30), .bin .xor (T 29) (.const (.int .u32 (3988292384))), none⟩,
                  ⟨(some 5), .mv (T 30), none⟩])
                .skip)))))
            (.reg [⟨(some 31), .bin .add (T 21) (C (1)), none⟩,
              ⟨(some 21), .mv (T 31), none⟩]))))))))))
      (.reg [⟨(some 32), .bin .add (T 13) (C (1)), none⟩,
        ⟨(some 13), .mv (T 32), none⟩])))))))
  (.seq (.reg [⟨(some 33), .mv (T 5), none⟩,
    ⟨(some 34), .un .xor (T 33), none⟩,
    ⟨(some 4), .mv (T 34), none⟩])
  .ret))))
theorem e_digest_CrcMore : slimC Tryd.prog 35 (Tryd.f10.body.getD .skip) = s_digest_CrcMore := by kernel_rfl
theorem r_digest_CrcMore : slimRes Tryd.prog Tryd.f10 = some [.tmp 4] := by kernel_rfl

/-- The slim code of drayage/digest.Of. -/
def s_digest_Of : SCode :=
  (.seq (.reg [⟨(some 4), .mv (.const (.slice none 0 0)), none⟩])
  (.seq (.reg [⟨(some 8), .mv (T 0), none⟩,
    ⟨(some 9), .call true n_digest_New [(T 8)], none⟩,
    ⟨(some 7), .mv (T 9), none⟩,
    ⟨(some 10), .ext (T 7) 0, none⟩,
    ⟨(some 11), .ext (T 7) 1, none⟩,
    ⟨(some 5), .mv (T 10), none⟩,
    ⟨(some 6), .mv (T 11), none⟩])
  (.seq (.seq (.reg [⟨(some 12), .mv (T 6), none⟩,
    ⟨(some 13), .bin .neq (T 12) (C (0)), none⟩])
  (.cond (T 13)
    (.seq (.reg [⟨(some 4), .mv (.const (.slice none 0 0)), none⟩])
    .ret)
    .skip))
  (.seq (.reg [⟨(some 14), .mv (T 5), none⟩,
    ⟨(some 15), .mv (T 1), none⟩,
    ⟨(some 16), .call true n_digest_Hash_Write [(T 14), (T 15)], none⟩])
  (.seq (.reg [⟨(some 17), .mv (T 5), none⟩,
    ⟨(some 18), .call true n_digest_Hash_Sum [(T 17)], none⟩,
    ⟨(some 4), .mv (T 18), none⟩])
  .ret)))))
theorem e_digest_Of : slimC Tryd.prog 19 (Tryd.f11.body.getD .skip) = s_digest_Of := by kernel_rfl
theorem r_digest_Of : slimRes Tryd.prog Tryd.f11 = some [.tmp 4] := by kernel_rfl

/-- The slim code of drayage/drayageref02.Of. -/
def s_drayageref02_Of : SCode :=
  (.seq (.reg [⟨(some 4), .mv (.const (.slice none 0 0)), none⟩])
  (.seq (.seq (.reg [⟨(some 12), .mv (T 0), none⟩,
    ⟨(some 13), .bin .lss (T 12) (C (1)), none⟩,
    ⟨(some 14), .mv (T 13), none⟩,
    ⟨(some 15), .mv (T 0), (some (14, false))⟩,
    ⟨(some 16), .bin .gtr (T 15) (C (3)), (some (14, false))⟩,
    ⟨(some 17), .pick (T 14) (.const (.bool true)) (T 16), none⟩])
  (.cond (T 17)
    (.seq (.reg [⟨(some 4), .mv (.const (.slice none 0 0)), none⟩])
    .ret)
    .skip))
  (.seq (.reg [⟨(some 18), .bsl none [(.const (.int .u32 (1732584193))), (.const (.int .u32 (4023233417))), (.const (.int .u32 (2562383102))), (.const (.int .u32 (271733878)))], none⟩,
    ⟨(some 5), .mv (T 18), none⟩])
  (.seq (.seq (.reg [⟨(some 19), .mv (T 0), none⟩,
    ⟨(some 20), .bin .eql (T 19) (C (2)), none⟩])
  (.cond (T 20)
    (.reg [⟨(some 21), .bsl none [(.const (.int .u32 (1732584193))), (.const (.int .u32 (4023233417))), (.const (.int .u32 (2562383102))), (.const (.int .u32 (271733878))), (.const (.int .u32 (3285377520)))], none⟩,
      ⟨(some 5), .mv (T 21), none⟩])
    .skip))
  (.seq (.seq (.reg [⟨(some 22), .mv (T 0), none⟩,
    ⟨(some 23), .bin .eql (T 22) (C (3)), none⟩])
  (.cond (T 23)
    (.reg [⟨(some 24), .bsl none [(.const (.int .u32 (1779033703))), (.const (.int .u32 (3144134277))), (.const (.int .u32 (1013904242))), (.const (.int .u32 (2773480762))), (.const (.int .u32 (1359893119))), (.const (.int .u32 (2600822924))), (.const (.int .u32 (528734635))), (.const (.int .u32 (1541459225)))], none⟩,
      ⟨(some 5), .mv (T 24), none⟩])
    .skip))
  (.seq (.reg [⟨(some 25), .mv (T 1), none⟩,
    ⟨(some 26), .mv (T 0), none⟩,
    ⟨(some 27), .bin .eql (T 26) (C (1)), none⟩,
    ⟨(some 28), .call true n_drayageref02_whole [(T 25), (T 27)], none⟩,
    ⟨(some 6), .mv (T 28), none⟩])
  (.seq (.seq (.reg [⟨(some 7), .mv (C (0)), none⟩])
  (.block 0
    (.loop
      (.seq (.seq (.reg [⟨(some 29), .mv (T 7), none⟩,
        ⟨(some 30), .mv (T 6), none⟩,
        ⟨(some 31), .len false (T 30), none⟩,
        ⟨(some 32), .bin .lss (T 29) (T 31), none⟩])
      (.cond (T 32)
        .skip
        (.exit 0)))
      (.seq (.block 1
        (.seq (.reg [⟨(some 35), .mv (T 6), none⟩,
          ⟨(some 36), .mv (T 7), none⟩,
          ⟨(some 37), .mv (T 7), none⟩,
          ⟨(some 38), .bin .add (T 37) (C (64)), none⟩,
          ⟨(some 39), .sl none (T 35) (some (T 36)) (some (T 38)), none⟩,
          ⟨(some 40), .mv (T 0), none⟩,
          ⟨(some 41), .bin .eql (T 40) (C (1)), none⟩,
          ⟨(some 42), .call true n_drayageref02_wordsOf [(T 39), (T 41)], none⟩,
          ⟨(some 8), .mv (T 42), none⟩])
        (.seq (.reg [⟨(some 43), .mv (T 0), none⟩])
        (.block 2
          (.seq (.reg [⟨(some 45), .bin .eql (T 43) (C (1)), none⟩,
            ⟨(some 44), .mv (T 45), none⟩])
          (.cond (T 44)
            (.reg [⟨(some 46), .mv (T 5), none⟩,
              ⟨(some 47), .mv (T 8), none⟩,
              ⟨(some 48), .call true n_drayageref02_md5 [(T 46), (T 47)], none⟩,
              ⟨(some 5), .mv (T 48), none⟩])
            (.seq (.reg [⟨(some 50), .bin .eql (T 43) (C (2)), none⟩,
              ⟨(some 49), .mv (T 50), none⟩])
            (.cond (T 49)
              (.reg [⟨(some 51), .mv (T 5), none⟩,
                ⟨(some 52), .mv (T 8), none⟩,
                ⟨(some 53), .call true n_drayageref02_sha1 [(T 51), (T 52)], none⟩,
                ⟨(some 5), .mv (T 53), none⟩])
              (.seq (.reg [⟨(some 55), .bin .eql (T 43) (C (3)), none⟩,
                ⟨(some 54), .mv (T 55), none⟩])
              (.cond (T 54)
                (.reg [⟨(some 56), .mv (T 5), none⟩,
                  ⟨(some 57), .mv (T 8), none⟩,
                  ⟨(some 58), .call true n_drayageref02_sha256 [(T 56), (T 57)], none⟩,
                  ⟨(some 5), .mv (T 58), none⟩])
                .skip))))))))))
      (.reg [⟨(some 33), .mv (T 7), none⟩,
        ⟨(some 34), .bin .add (T 33) (C (64)), none⟩,
        ⟨(some 7), .mv (T 34), none⟩]))))))
  (.seq (.reg [⟨(some 9), .mv (.const (.slice none 0 0)), none⟩])
  (.seq (.seq (.reg [⟨(some 10), .mv (C (0)), none⟩])
  (.block 3
    (.loop
      (.seq (.seq (.reg [⟨(some 59), .mv (T 10), none⟩,
        ⟨(some 60), .mv (T 5), none⟩,
        ⟨(some 61), .len false (T 60), none⟩,
        ⟨(some 62), .bin .lss (T 59) (T 61), none⟩])
      (.cond (T 62)
        .skip
        (.exit 3)))
      (.seq (.block 4
        (.seq (.reg [⟨(some 65), .mv (T 5), none⟩,
          ⟨(some 66), .mv (T 10), none⟩,
          ⟨(some 67), .iaddr none (T 65) (T 66), none⟩,
          ⟨(some 68), .load none (T 67), none⟩,
          ⟨(some 69), .ci .u64 (T 68), none⟩,
          ⟨(some 70), .call true n_drayageref01_Be [(T 69), (C (4))], none⟩,
          ⟨(some 11), .mv (T 70), none⟩])
        (.seq (.seq (.reg [⟨(some 71), .mv (T 0), none⟩,
          ⟨(some 72), .bin .eql (T 71) (C (1)), none⟩])
        (.cond (T 72)
          (.reg [⟨(some 73), .mv (T 11), none⟩,
            ⟨(some 74), .call true n_drayageref01_Turned [(T 73)], none⟩,
            ⟨(some 11), .mv (T 74), none⟩])
          .skip))
        (.reg [⟨(some 75), .mv (T 9), none⟩,
          ⟨(some 76), .mv (T 11), none⟩,
          ⟨(some 77), .app none 1 (T 75) (T 76), none⟩,
          ⟨(some 9), .mv (T 77), none⟩]))))
      (.reg [⟨(some 63), .mv (T 10), none⟩,
        ⟨(some 64), .bin .add (T 63) (C (1)), none⟩,
        ⟨(some 10), .mv (T 64), none⟩]))))))
  (.seq (.reg [⟨(some 78), .mv (T 9), none⟩,
    ⟨(some 4), .mv (T 78), none⟩])
  .ret))))))))))
theorem e_drayageref02_Of : slimC Tryd.prog 79 (Tryd.f12.body.getD .skip) = s_drayageref02_Of := by kernel_rfl
theorem r_drayageref02_Of : slimRes Tryd.prog Tryd.f12 = some [.tmp 4] := by kernel_rfl

/-- The slim code of drayage/digest.New. -/
def s_digest_New : SCode :=
  (.seq (.reg [⟨(some 2), .mv (.const (.pointer none)), none⟩,
    ⟨(some 3), .mv (C (0)), none⟩])
  (.seq (.reg [⟨(some 5), .mv (T 0), none⟩,
    ⟨(some 6), .call true n_digest_start [(T 5)], none⟩,
    ⟨(some 4), .mv (T 6), none⟩])
  (.seq (.seq (.reg [⟨(some 7), .mv (T 4), none⟩,
    ⟨(some 8), .isnil false (T 7), none⟩])
  (.cond (T 8)
    (.seq (.reg [⟨(some 2), .mv (.const (.pointer none)), none⟩,
      ⟨(some 3), .mv (C (9)), none⟩])
    .ret)
    .skip))
  (.seq (.reg [⟨(some 9), .mv (T 0), none⟩,
    ⟨(some 10), .mv (T 4), none⟩,
    ⟨(some 11), .build [(.int .i64 (0)), (.slice none 0 0), (.int .u64 (0)), (.int .u8 (0)), (.int .u8 (0)), (.int .u8 (0)), (.int .u8 (0)), (.int .u8 (0)), (.int .u8 (0)), (.int .u8 (0)), (.int .u8 (0)), (.int .u8 (0)), (.int .u8 (0)), (.int .u8 (0)), (.int .u8 (0)), (.int .u8 (0)), (.int .u8 (0)), (.int .u8 (0)), (.int .u8 (0)), (.int .u8 (0)), (.int .u8 (0)), (.int .u8 (0)), (.int .u8 (0)), (.int .u8 (0)), (.int .u8 (0)), (.int .u8 (0)), (.int .u8 (0)), (.int .u8 (0)), (.int .u8 (0)), (.int .u8 (0)), (.int .u8 (0)), (.int .u8 (0)), (.int .u8 (0)), (.int .u8 (0)), (.int .u8 (0)), (.int .u8 (0)), (.int .u8 (0)), (.int .u8 (0)), (.int .u8 (0)), (.int .u8 (0)), (.int .u8 (0)), (.int .u8 (0)), (.int .u8 (0)), (.int .u8 (0)), (.int .u8 (0)), (.int .u8 (0)), (.int .u8 (0)), (.int .u8 (0)), (.int .u8 (0)), (.int .u8 (0)), (.int .u8 (0)), (.int .u8 (0)), (.int .u8 (0)), (.int .u8 (0)), (.int .u8 (0)), (.int .u8 (0)), (.int .u8 (0)), (.int .u8 (0)), (.int .u8 (0)), (.int .u8 (0)), (.int .u8 (0)), (.int .u8 (0)), (.int .u8 (0)), (.int .u8 (0)), (.int .u8 (0)), (.int .u8 (0)), (.int .u8 (0))] [(0, 1, (T 9)), (1, 1, (T 10))], none⟩,
    ⟨(some 12), .box (T 11), none⟩,
    ⟨(some 2), .mv (T 12), none⟩,
    ⟨(some 3), .mv (C (0)), none⟩])
  .ret))))
theorem e_digest_New : slimC Tryd.prog 13 (Tryd.f13.body.getD .skip) = s_digest_New := by kernel_rfl
theorem r_digest_New : slimRes Tryd.prog Tryd.f13 = some [.tmp 2, .tmp 3] := by kernel_rfl

/-- The slim code of (*drayage/digest.Hash).Write. -/
def s_digest_Hash_Write : SCode :=
  (.seq (.reg [⟨(some 6), .mv (T 0), none⟩,
    ⟨(some 7), .nilc (T 6), none⟩,
    ⟨(some 8), .faddr 2 (T 7), none⟩,
    ⟨(some 9), .load none (T 8), none⟩,
    ⟨(some 10), .bin .rem (T 9) (.const (.int .u64 (64))), none⟩,
    ⟨(some 11), .ci .i64 (T 10), none⟩,
    ⟨(some 4), .mv (T 11), none⟩])
  (.seq (.reg [⟨(some 12), .mv (T 0), none⟩,
    ⟨(some 13), .nilc (T 12), none⟩,
    ⟨(some 14), .faddr 2 (T 13), none⟩,
    ⟨(some 15), .load none (T 14), none⟩,
    ⟨(some 16), .mv (T 1), none⟩,
    ⟨(some 17), .len false (T 16), none⟩,
    ⟨(some 18), .ci .u64 (T 17), none⟩,
    ⟨(some 19), .bin .add (T 15) (T 18), none⟩,
    ⟨(some 20), .nilc (T 12), none⟩,
    ⟨(some 21), .faddr 2 (T 20), none⟩,
    ⟨none, .store none (T 21) (T 19), none⟩])
  (.seq (.seq (.reg [⟨(some 22), .mv (T 4), none⟩,
    ⟨(some 23), .bin .gtr (T 22) (C (0)), none⟩])
  (.cond (T 23)
    (.seq (.reg [⟨(some 24), .mv (T 0), none⟩,
      ⟨(some 25), .nilc (T 24), none⟩,
      ⟨(some 26), .faddr 3 (T 25), none⟩,
      ⟨(some 27), .mv (T 4), none⟩,
      ⟨(some 28), .sla 64 none (T 26) (some (T 27)) none, none⟩,
      ⟨(some 29), .mv (T 1), none⟩,
      ⟨(some 30), .copy (T 28) (T 29), none⟩,
      ⟨(some 5), .mv (T 30), none⟩])
    (.seq (.seq (.reg [⟨(some 31), .mv (T 4), none⟩,
      ⟨(some 32), .mv (T 5), none⟩,
      ⟨(some 33), .bin .add (T 31) (T 32), none⟩,
      ⟨(some 34), .bin .lss (T 33) (C (64)), none⟩])
    (.cond (T 34)
      .ret
      .skip))
    (.seq (.reg [⟨(some 35), .mv (T 0), none⟩,
      ⟨(some 36), .mv (T 0), none⟩,
      ⟨(some 37), .nilc (T 36), none⟩,
      ⟨(some 38), .faddr 3 (T 37), none⟩,
      ⟨(some 39), .sla 64 none (T 38) none none, none⟩,
      ⟨(some 40), .call true n_digest_Hash_take [(T 35), (T 39)], none⟩])
    (.reg [⟨(some 41), .mv (T 1), none⟩,
      ⟨(some 42), .mv (T 5), none⟩,
      ⟨(some 43), .sl none (T 41) (some (T 42)) none, none⟩,
      ⟨(some 1), .mv (T 43), none⟩]))))
    .skip))
  (.seq (.block 0
    (.loop
      (.seq (.seq (.reg [⟨(some 44), .mv (T 1), none⟩,
        ⟨(some 45), .len false (T 44), none⟩,
        ⟨(some 46), .bin .geq (T 45) (C (64)), none⟩])
      (.cond (T 46)
        .skip
        (.exit 0)))
      (.block 1
        (.seq (.reg [⟨(some 47), .mv (T 0), none⟩,
          ⟨(some 48), .mv (T 1), none⟩,
          ⟨(some 49), .sl none (T 48) none (some (C (64))), none⟩,
          ⟨(some 50), .call true n_digest_Hash_take [(T 47), (T 49)], none⟩])
        (.reg [⟨(some 51), .mv (T 1), none⟩,
          ⟨(some 52), .sl none (T 51) (some (C (64))) none, none⟩,
          ⟨(some 1), .mv (T 52), none⟩]))))))
  (.reg [⟨(some 53), .mv (T 0), none⟩,
    ⟨(some 54), .nilc (T 53), none⟩,
    ⟨(some 55), .faddr 3 (T 54), none⟩,
    ⟨(some 56), .sla 64 none (T 55) none none, none⟩,
    ⟨(some 57), .mv (T 1), none⟩,
    ⟨(some 58), .copy (T 56) (T 57), none⟩])))))
theorem e_digest_Hash_Write : slimC Tryd.prog 59 (Tryd.f14.body.getD .skip) = s_digest_Hash_Write := by kernel_rfl
theorem r_digest_Hash_Write : slimRes Tryd.prog Tryd.f14 = some [] := by kernel_rfl

/-- The slim code of (*drayage/digest.Hash).Sum. -/
def s_digest_Hash_Sum : SCode :=
  (.seq (.reg [⟨(some 2), .mv (.const (.slice none 0 0)), none⟩])
  (.seq (.reg [⟨(some 7), .mv (T 0), none⟩,
    ⟨(some 8), .nilc (T 7), none⟩,
    ⟨(some 9), .load (some 67) (T 8), none⟩,
    ⟨(some 3), .alloc [(.int .i64 (0)), (.slice none 0 0), (.int .u64 (0)), (.int .u8 (0)), (.int .u8 (0)), (.int .u8 (0)), (.int .u8 (0)), (.int .u8 (0)), (.int .u8 (0)), (.int .u8 (0)), (.int .u8 (0)), (.int .u8 (0)), (.int .u8 (0)), (.int .u8 (0)), (.int .u8 (0)), (.int .u8 (0)), (.int .u8 (0)), (.int .u8 (0)), (.int .u8 (0)), (.int .u8 (0)), (.int .u8 (0)), (.int .u8 (0)), (.int .u8 (0)), (.int .u8 (0)), (.int .u8 (0)), (.int .u8 (0)), (.int .u8 (0)), (.int .u8 (0)), (.int .u8 (0)), (.int .u8 (0)), (.int .u8 (0)), (.int .u8 (0)), (.int .u8 (0)), (.int .u8 (0)), (.int .u8 (0)), (.int .u8 (0)), (.int .u8 (0)), (.int .u8 (0)), (.int .u8 (0)), (.int .u8 (0)), (.int .u8 (0)), (.int .u8 (0)), (.int .u8 (0)), (.int .u8 (0)), (.int .u8 (0)), (.int .u8 (0)), (.int .u8 (0)), (.int .u8 (0)), (.int .u8 (0)), (.int .u8 (0)), (.int .u8 (0)), (.int .u8 (0)), (.int .u8 (0)), (.int .u8 (0)), (.int .u8 (0)), (.int .u8 (0)), (.int .u8 (0)), (.int .u8 (0)), (.int .u8 (0)), (.int .u8 (0)), (.int .u8 (0)), (.int .u8 (0)), (.int .u8 (0)), (.int .u8 (0)), (.int .u8 (0)), (.int .u8 (0)), (.int .u8 (0))], none⟩,
    ⟨none, .store (some 67) (T 3) (T 9), none⟩])
  (.seq (.reg [⟨(some 10), .mv (T 0), none⟩,
    ⟨(some 11), .nilc (T 10), none⟩,
    ⟨(some 12), .faddr 1 (T 11), none⟩,
    ⟨(some 13), .load none (T 12), none⟩,
    ⟨(some 14), .len false (T 13), none⟩,
    ⟨(some 15), .mks none 4 [(.int .u32 (0))] (T 14) (T 14), none⟩,
    ⟨(some 16), .faddr 1 (T 3), none⟩,
    ⟨none, .store none (T 16) (T 15), none⟩])
  (.seq (.reg [⟨(some 17), .faddr 1 (T 3), none⟩,
    ⟨(some 18), .load none (T 17), none⟩,
    ⟨(some 19), .mv (T 0), none⟩,
    ⟨(some 20), .nilc (T 19), none⟩,
    ⟨(some 21), .faddr 1 (T 20), none⟩,
    ⟨(some 22), .load none (T 21), none⟩,
    ⟨(some 23), .copy (T 18) (T 22), none⟩])
  (.seq (.reg [⟨(some 24), .mv (T 0), none⟩,
    ⟨(some 25), .call true n_digest_Hash_end [(T 24)], none⟩,
    ⟨(some 26), .call true n_digest_Hash_Write [(T 3), (T 25)], none⟩])
  (.seq (.reg [⟨(some 27), .faddr 1 (T 3), none⟩,
    ⟨(some 28), .load none (T 27), none⟩,
    ⟨(some 29), .len false (T 28), none⟩,
    ⟨(some 30), .bin .mul (T 29) (C (4)), none⟩,
    ⟨(some 31), .mks none 1 [(.int .u8 (0))] (C (0)) (T 30), none⟩,
    ⟨(some 4), .mv (T 31), none⟩])
  (.seq (.seq (.reg [⟨(some 32), .faddr 1 (T 3), none⟩,
    ⟨(some 33), .load none (T 32), none⟩,
    ⟨(some 34), .len false (T 33), none⟩,
    ⟨(some 35), .mv (C (0)), none⟩])
  (.block 0
    (.loop
      (.seq (.reg [⟨(some 36), .bin .lss (T 35) (T 34), none⟩])
      (.seq (.cond (T 36)
        .skip
        (.exit 0))
      (.seq (.block 1
        (.seq (.reg [⟨(some 37), .iaddr none (T 33) (T 35), none⟩,
          ⟨(some 38), .load none (T 37), none⟩,
          ⟨(some 6), .mv (T 38), none⟩])
        (.reg [⟨(some 39), .mv (T 4), none⟩,
          ⟨(some 40), .mv (T 0), none⟩,
          ⟨(some 41), .mv (T 6), none⟩,
          ⟨(some 42), .ci .u64 (T 41), none⟩,
          ⟨(some 43), .call true n_digest_Hash_number [(T 40), (T 42), (C (4))], none⟩,
          ⟨(some 44), .app none 1 (T 39) (T 43), none⟩,
          ⟨(some 4), .mv (T 44), none⟩])))
      (.reg [⟨(some 45), .bin .add (T 35) (C (1)), none⟩,
        ⟨(some 35), .mv (T 45), none⟩])))))))
  (.seq (.reg [⟨(some 46), .mv (T 4), none⟩,
    ⟨(some 2), .mv (T 46), none⟩])
  .ret))))))))
theorem e_digest_Hash_Sum : slimC Tryd.prog 47 (Tryd.f15.body.getD .skip) = s_digest_Hash_Sum := by kernel_rfl
theorem r_digest_Hash_Sum : slimRes Tryd.prog Tryd.f15 = some [.tmp 2] := by kernel_rfl

/-- The slim code of drayage/drayageref02.whole. -/
def s_drayageref02_whole : SCode :=
  (.seq (.reg [⟨(some 4), .mv (.const (.slice none 0 0)), none⟩])
  (.seq (.reg [⟨(some 7), .emp none, none⟩,
    ⟨(some 8), .mv (T 0), none⟩,
    ⟨(some 9), .app none 1 (T 7) (T 8), none⟩,
    ⟨(some 5), .mv (T 9), none⟩])
  (.seq (.reg [⟨(some 10), .mv (T 5), none⟩,
    ⟨(some 11), .bslice none [(.const (.int .u8 (128)))], none⟩,
    ⟨(some 12), .app none 1 (T 10) (T 11), none⟩,
    ⟨(some 5), .mv (T 12), none⟩])
  (.seq (.block 0
    (.loop
      (.seq (.seq (.reg [⟨(some 13), .mv (T 5), none⟩,
        ⟨(some 14), .len false (T 13), none⟩,
        ⟨(some 15), .bin .rem (T 14) (C (64)), none⟩,
        ⟨(some 16), .bin .neq (T 15) (C (56)), none⟩])
      (.cond (T 16)
        .skip
        (.exit 0)))
      (.block 1
        (.reg [⟨(some 17), .mv (T 5), none⟩,
          ⟨(some 18), .bslice none [(.const (.int .u8 (0)))], none⟩,
          ⟨(some 19), .app none 1 (T 17) (T 18), none⟩,
          ⟨(some 5), .mv (T 19), none⟩])))))
  (.seq (.reg [⟨(some 20), .mv (T 0), none⟩,
    ⟨(some 21), .len false (T 20), none⟩,
    ⟨(some 22), .ci .u64 (T 21), none⟩,
    ⟨(some 23), .bin .mul (T 22) (.const (.int .u64 (8))), none⟩,
    ⟨(some 24), .call true n_drayageref01_Be [(T 23), (C (8))], none⟩,
    ⟨(some 6), .mv (T 24), none⟩])
  (.seq (.seq (.reg [⟨(some 25), .mv (T 1), none⟩])
  (.cond (T 25)
    (.reg [⟨(some 26), .mv (T 6), none⟩,
      ⟨(some 27), .call true n_drayageref01_Turned [(T 26)], none⟩,
      ⟨(some 6), .mv (T 27), none⟩])
    .skip))
  (.seq (.reg [⟨(some 28), .mv (T 5), none⟩,
    ⟨(some 29), .mv (T 6), none⟩,
    ⟨(some 30), .app none 1 (T 28) (T 29), none⟩,
    ⟨(some 4), .mv (T 30), none⟩])
  .ret)))))))
theorem e_drayageref02_whole : slimC Tryd.prog 31 (Tryd.f16.body.getD .skip) = s_drayageref02_whole := by kernel_rfl
theorem r_drayageref02_whole : slimRes Tryd.prog Tryd.f16 = some [.tmp 4] := by kernel_rfl

/-- The slim code of drayage/drayageref02.wordsOf. -/
def s_drayageref02_wordsOf : SCode :=
  (.seq (.reg [⟨(some 4), .mv (.const (.slice none 0 0)), none⟩])
  (.seq (.reg [⟨(some 5), .mv (.const (.slice none 0 0)), none⟩])
  (.seq (.seq (.reg [⟨(some 6), .mv (C (0)), none⟩])
  (.block 0
    (.loop
      (.seq (.seq (.reg [⟨(some 9), .mv (T 6), none⟩,
        ⟨(some 10), .bin .lss (T 9) (C (16)), none⟩])
      (.cond (T 10)
        .skip
        (.exit 0)))
      (.seq (.block 1
        (.seq (.reg [⟨(some 14), .mv (T 0), none⟩,
          ⟨(some 15), .mv (T 6), none⟩,
          ⟨(some 16), .bin .mul (C (4)) (T 15), none⟩,
          ⟨(some 17), .call true n_drayageref01_GetBe [(T 14), (T 16), (C (4))], none⟩,
          ⟨(some 13), .mv (T 17), none⟩,
          ⟨(some 18), .ext (T 13) 0, none⟩,
          ⟨(some 19), .ext (T 13) 1, none⟩,
          ⟨(some 7), .mv (T 18), none⟩,
          ⟨(some 8), .mv (T 19), none⟩])
        (.seq (.seq (.reg [⟨(some 20), .mv (T 1), none⟩])
        (.cond (T 20)
          (.reg [⟨(some 22), .mv (T 0), none⟩,
            ⟨(some 23), .mv (T 6), none⟩,
            ⟨(some 24), .bin .mul (C (4)) (T 23), none⟩,
            ⟨(some 25), .call true n_drayageref01_GetLe [(T 22), (T 24), (C (4))], none⟩,
            ⟨(some 21), .mv (T 25), none⟩,
            ⟨(some 26), .ext (T 21) 0, none⟩,
            ⟨(some 27), .ext (T 21) 1, none⟩,
            ⟨(some 7), .mv (T 26), none⟩])
          .skip))
        (.reg [⟨(some 28), .mv (T 5), none⟩,
          ⟨(some 29), .mv (T 7), none⟩,
          ⟨(some 30), .ci .u32 (T 29), none⟩,
          ⟨(some 31), .bslice none [(T 30)], none⟩,
          ⟨(some 32), .app none 4 (T 28) (T 31), none⟩,
          ⟨(some 5), .mv (T 32), none⟩]))))
      (.reg [⟨(some 11), .mv (T 6), none⟩,
        ⟨(some 12), .bin .add (T 11) (C (1)), none⟩,
        ⟨(some 6), .mv (T 12), none⟩]))))))
  (.seq (.reg [⟨(some 33), .mv (T 5), none⟩,
    ⟨(some 4), .mv (T 33), none⟩])
  .ret))))
theorem e_drayageref02_wordsOf : slimC Tryd.prog 34 (Tryd.f17.body.getD .skip) = s_drayageref02_wordsOf := by kernel_rfl
theorem r_drayageref02_wordsOf : slimRes Tryd.prog Tryd.f17 = some [.tmp 4] := by kernel_rfl

/-- The slim code of drayage/drayageref02.md5. -/
def s_drayageref02_md5 : SCode :=
  (.seq (.reg [⟨(some 4), .mv (.const (.slice none 0 0)), none⟩])
  (.seq (.reg [⟨(some 13), .mv (T 0), none⟩,
    ⟨(some 14), .iaddr none (T 13) (C (0)), none⟩,
    ⟨(some 15), .load none (T 14), none⟩,
    ⟨(some 16), .mv (T 0), none⟩,
    ⟨(some 17), .iaddr none (T 16) (C (1)), none⟩,
    ⟨(some 18), .load none (T 17), none⟩,
    ⟨(some 19), .mv (T 0), none⟩,
    ⟨(some 20), .iaddr none (T 19) (C (2)), none⟩,
    ⟨(some 21), .load none (T 20), none⟩,
    ⟨(some 22), .mv (T 0), none⟩,
    ⟨(some 23), .iaddr none (T 22) (C (3)), none⟩,
    ⟨(some 24), .load none (T 23), none⟩,
    ⟨(some 5), .mv (T 15), none⟩,
    ⟨(some 6), .mv (T 18), none⟩,
    ⟨(some 7), .mv (T 21), none⟩,
    ⟨(some 8), .mv (T 24), none⟩])
  (.seq (.seq (.reg [⟨(some 9), .mv (C (0)), none⟩])
  (.block 0
    (.loop
      (.seq (.seq (.reg [⟨(some 25), .mv (T 9), none⟩,
        ⟨(some 26), .bin .lss (T 25) (C (64)), none⟩])
      (.cond (T 26)
        .skip
        (.exit 0)))
      (.seq (.block 1
        (.seq (.reg [⟨(some 29), .mv (T 7), none⟩,
          ⟨(some 30), .mv (T 6), none⟩,
          ⟨(some 31), .mv (T 8), none⟩,
          ⟨(some 32), .un .xor (T 31), none⟩,
          ⟨(some 33), .bin .or (T 30) (T 32), none⟩,
          ⟨(some 34), .bin .xor (T 29) (T 33), none⟩,
          ⟨(some 10), .mv (T 34), none⟩])
        (.seq (.reg [⟨(some 35), .mv (T 9), none⟩,
          ⟨(some 36), .bin .mul (C (7)) (T 35), none⟩,
          ⟨(some 37), .bin .rem (T 36) (C (16)), none⟩,
          ⟨(some 11), .mv (T 37), none⟩])
        (.seq (.seq (.reg [⟨(some 38), .mv (T 9), none⟩,
          ⟨(some 39), .bin .lss (T 38) (C (16)), none⟩])
        (.cond (T 39)
          (.seq (.reg [⟨(some 40), .mv (T 6), none⟩,
            ⟨(some 41), .mv (T 7), none⟩,
            ⟨(some 42), .bin .and (T 40) (T 41), none⟩,
            ⟨(some 43), .mv (T 6), none⟩,
            ⟨(some 44), .un .xor (T 43), none⟩,
            ⟨(some 45), .mv (T 8), none⟩,
            ⟨(some 46), .bin .and (T 44) (T 45), none⟩,
            ⟨(some 47), .bin .or (T 42) (T 46), none⟩,
            ⟨(some 10), .mv (T 47), none⟩])
          (.reg [⟨(some 48), .mv (T 9), none⟩,
            ⟨(some 11), .mv (T 48), none⟩]))
          (.seq (.reg [⟨(some 49), .mv (T 9), none⟩,
            ⟨(some 50), .bin .lss (T 49) (C (32)), none⟩])
          (.cond (T 50)
            (.seq (.reg [⟨(some 51), .mv (T 8), none⟩,
              ⟨(some 52), .mv (T 6), none⟩,
              ⟨(some 53), .bin .and (T 51) (T 52), none⟩,
              ⟨(some 54), .mv (T 8), none⟩,
              ⟨(some 55), .un .xor (T 54), none⟩,
              ⟨(some 56), .mv (T 7), none⟩,
              ⟨(some 57), .bin .and (T 55) (T 56), none⟩,
              ⟨(some 58), .bin .or (T 53) (T 57), none⟩,
              ⟨(some 10), .mv (T 58), none⟩])
            (.reg [⟨(some 59), .mv (T 9), none⟩,
              ⟨(some 60), .bin .mul (C (5)) (T 59), none⟩,
              ⟨(some 61), .bin .add (T 60) (C (1)), none⟩,
              ⟨(some 62), .bin .rem (T 61) (C (16)), none⟩,
              ⟨(some 11), .mv (T 62), none⟩]))
            (.seq (.reg [⟨(some 63), .mv (T 9), none⟩,
              ⟨(some 64), .bin .lss (T 63) (C (48)), none⟩])
            (.cond (T 64)
              (.seq (.reg [⟨(some 65), .mv (T 6), none⟩,
                ⟨(some 66), .mv (T 7), none⟩,
                ⟨(some 67), .bin .xor (T 65) (T 66), none⟩,
                ⟨(some 68), .mv (T 8), none⟩,
                ⟨(some 69), .bin .xor (T 67) (T 68), none⟩,
                ⟨(some 10), .mv (T 69), none⟩])
              (.reg [⟨(some 70), .mv (T 9), none⟩,
                ⟨(some 71), .bin .mul (C (3)) (T 70), none⟩,
                ⟨(some 72), .bin .add (T 71) (C (5)), none⟩,
                ⟨(some 73), .bin .rem (T 72) (C (16)), none⟩,
                ⟨(some 11), .mv (T 73), none⟩]))
              .skip))))))
        (.seq (.reg [⟨(some 74), .mv (T 6), none⟩,
          ⟨(some 75), .mv (T 5), none⟩,
          ⟨(some 76), .mv (T 10), none⟩,
          ⟨(some 77), .bin .add (T 75) (T 76), none⟩,
          ⟨(some 78), .mv (T 9), none⟩,
          ⟨(some 79), .iaddrA 64 none (.global 0) (T 78), none⟩,
          ⟨(some 80), .load none (T 79), none⟩,
          ⟨(some 81), .bin .add (T 77) (T 80), none⟩,
          ⟨(some 82), .mv (T 1), none⟩,
          ⟨(some 83), .mv (T 11), none⟩,
          ⟨(some 84), .iaddr none (T 82) (T 83), none⟩,
          ⟨(some 85), .load none (T 84), none⟩,
          ⟨(some 86), .bin .add (T 81) (T 85), none⟩,
          ⟨(some 87), .mv (T 9), none⟩,
          ⟨(some 88), .call false n_drayageref02_turn [(T 87)], none⟩,
          ⟨(some 89), .call false n_drayageref02_left [(T 86), (T 88)], none⟩,
          ⟨(some 90), .bin .add (T 74) (T 89), none⟩,
          ⟨(some 12), .mv (T 90), none⟩])
        (.seq (.reg [⟨(some 91), .mv (T 8), none⟩,
          ⟨(some 5), .mv (T 91), none⟩])
        (.seq (.reg [⟨(some 92), .mv (T 7), none⟩,
          ⟨(some 8), .mv (T 92), none⟩])
        (.seq (.reg [⟨(some 93), .mv (T 6), none⟩,
          ⟨(some 7), .mv (T 93), none⟩])
        (.reg [⟨(some 94), .mv (T 12), none⟩,
          ⟨(some 6), .mv (T 94), none⟩])))))))))
      (.reg [⟨(some 27), .mv (T 9), none⟩,
        ⟨(some 28), .bin .add (T 27) (C (1)), none⟩,
        ⟨(some 9), .mv (T 28), none⟩]))))))
  (.seq (.reg [⟨(some 95), .mv (T 0), none⟩,
    ⟨(some 96), .iaddr none (T 95) (C (0)), none⟩,
    ⟨(some 97), .load none (T 96), none⟩,
    ⟨(some 98), .mv (T 5), none⟩,
    ⟨(some 99), .bin .add (T 97) (T 98), none⟩,
    ⟨(some 100), .mv (T 0), none⟩,
    ⟨(some 101), .iaddr none (T 100) (C (1)), none⟩,
    ⟨(some 102), .load none (T 101), none⟩,
    ⟨(some 103), .mv (T 6), none⟩,
    ⟨(some 104), .bin .add (T 102) (T 103), none⟩,
    ⟨(some 105), .mv (T 0), none⟩,
    ⟨(some 106), .iaddr none (T 105) (C (2)), none⟩,
    ⟨(some 107), .load none (T 106), none⟩,
    ⟨(some 108), .mv (T 7), none⟩,
    ⟨(some 109), .bin .add (T 107) (T 108), none⟩,
    ⟨(some 110), .mv (T 0), none⟩,
    ⟨(some 111), .iaddr none (T 110) (C (3)), none⟩,
    ⟨(some 112), .load none (T 111), none⟩,
    ⟨(some 113), .mv (T 8), none⟩,
    ⟨(some 114), .bin .add (T 112) (T 113), none⟩,
    ⟨(some 115), .bsl none [(T 99), (T 104), (T 109), (T 114)], none⟩,
    ⟨(some 4), .mv (T 115), none⟩])
  .ret))))
theorem e_drayageref02_md5 : slimC Tryd.prog 116 (Tryd.f18.body.getD .skip) = s_drayageref02_md5 := by kernel_rfl
theorem r_drayageref02_md5 : slimRes Tryd.prog Tryd.f18 = some [.tmp 4] := by kernel_rfl

/-- The slim code of drayage/drayageref02.sha1. -/
def s_drayageref02_sha1 : SCode :=
  (.seq (.reg [⟨(some 4), .mv (.const (.slice none 0 0)), none⟩])
  (.seq (.seq (.reg [⟨(some 5), .mv (C (16)), none⟩])
  (.block 0
    (.loop
      (.seq (.seq (.reg [⟨(some 15), .mv (T 5), none⟩,
        ⟨(some 16), .bin .lss (T 15) (C (80)), none⟩])
      (.cond (T 16)
        .skip
        (.exit 0)))
      (.seq (.block 1
        (.reg [⟨(some 19), .mv (T 1), none⟩,
          ⟨(some 20), .mv (T 1), none⟩,
          ⟨(some 21), .mv (T 5), none⟩,
          ⟨(some 22), .bin .sub (T 21) (C (3)), none⟩,
          ⟨(some 23), .iaddr none (T 20) (T 22), none⟩,
          ⟨(some 24), .load none (T 23), none⟩,
          ⟨(some 25), .mv (T 1), none⟩,
          ⟨(some 26), .mv (T 5), none⟩,
          ⟨(some 27), .bin .sub (T 26) (C (8)), none⟩,
          ⟨(some 28), .iaddr none (T 25) (T 27), none⟩,
          ⟨(some 29), .load none (T 28), none⟩,
          ⟨(some 30), .bin .xor (T 24) (T 29), none⟩,
          ⟨(some 31), .mv (T 1), none⟩,
          ⟨(some 32), .mv (T 5), none⟩,
          ⟨(some 33), .bin .sub (T 32) (C (14)), none⟩,
          ⟨(some 34), .iaddr none (T 31) (T 33), none⟩,
          ⟨(some 35), .load none (T 34), none⟩,
          ⟨(some 36), .bin .xor (T 30) (T 35), none⟩,
          ⟨(some 37), .mv (T 1), none⟩,
          ⟨(some 38), .mv (T 5), none⟩,
          ⟨(some 39), .bin .sub (T 38) (C (16)), none⟩,
          ⟨(some 40), .iaddr none (T 37) (T 39), none⟩,
          ⟨(some 41), .load none (T 40), none⟩,
          ⟨(some 42), .bin .xor (T 36) (T 41), none⟩,
          ⟨(some 43), .call true n_drayageref02_left [(T 42), (C (1))], none⟩,
          ⟨(some 44), .bslice none [(T 43)], none⟩,
          ⟨(some 45), .app none 4 (T 19) (T 44), none⟩,
          ⟨(some 1), .mv (T 45), none⟩]))
      (.reg [⟨(some 17), .mv (T 5), none⟩,
        ⟨(some 18), .bin .add (T 17) (C (1)), none⟩,
        ⟨(some 5), .mv (T 18), none⟩]))))))
  (.seq (.reg [⟨(some 46), .mv (T 0), none⟩,
    ⟨(some 47), .iaddr none (T 46) (C (0)), none⟩,
    ⟨(some 48), .load none (T 47), none⟩,
    ⟨(some 49), .mv (T 0), none⟩,
    ⟨(some 50), .iaddr none (T 49) (C (1)), none⟩,
    ⟨(some 51), .load none (T 50), none⟩,
    ⟨(some 52), .mv (T 0), none⟩,
    ⟨(some 53), .iaddr none (T 52) (C (2)), none⟩,
    ⟨(some 54), .load none (T 53), none⟩,
    ⟨(some 55), .mv (T 0), none⟩,
    ⟨(some 56), .iaddr none (T 55) (C (3)), none⟩,
    ⟨(some 57), .load none (T 56), none⟩,
    ⟨(some 58), .mv (T 0), none⟩,
    ⟨(some 59), .iaddr none (T 58) (C (4)), none⟩,
    ⟨(some 60), .load none (T 59), none⟩,
    ⟨(some 6), .mv (T 48), none⟩,
    ⟨(some 7), .mv (T 51), none⟩,
    ⟨(some 8), .mv (T 54), none⟩,
    ⟨(some 9), .mv (T 57), none⟩,
    ⟨(some 10), .mv (T 60), none⟩])
  (.seq (.seq (.reg [⟨(some 11), .mv (C (0)), none⟩])
  (.block 2
    (.loop
      (.seq (.seq (.reg [⟨(some 61), .mv (T 11), none⟩,
        ⟨(some 62), .bin .lss (T 61) (C (80)), none⟩])
      (.cond (T 62)
        .skip
        (.exit 2)))
      (.seq (.block 3
        (.seq (.reg [⟨(some 65), .mv (T 7), none⟩,
          ⟨(some 66), .mv (T 8), none⟩,
          ⟨(some 67), .bin .xor (T 65) (T 66), none⟩,
          ⟨(some 68), .mv (T 9), none⟩,
          ⟨(some 69), .bin .xor (T 67) (T 68), none⟩,
          ⟨(some 12), .mv (T 69), none⟩])
        (.seq (.reg [⟨(some 13), .mv (.const (.int .u32 (3395469782))), none⟩])
        (.seq (.seq (.reg [⟨(some 70), .mv (T 11), none⟩,
          ⟨(some 71), .bin .lss (T 70) (C (20)), none⟩])
        (.cond (T 71)
          (.seq (.reg [⟨(some 72), .mv (T 7), none⟩,
            ⟨(some 73), .mv (T 8), none⟩,
            ⟨(some 74), .bin .and (T 72) (T 73), none⟩,
            ⟨(some 75), .mv (T 7), none⟩,
            ⟨(some 76), .un .xor (T 75), none⟩,
            ⟨(some 77), .mv (T 9), none⟩,
            ⟨(some 78), .bin .and (T 76) (T 77), none⟩,
            ⟨(some 79), .bin .or (T 74) (T 78), none⟩,
            ⟨(some 12), .mv (T 79), none⟩])
          (.reg [⟨(some 13), .mv (.const (.int .u32 (1518500249))), none⟩]))
          (.seq (.reg [⟨(some 80), .mv (T 11), none⟩,
            ⟨(some 81), .bin .lss (T 80) (C (40)), none⟩])
          (.cond (T 81)
            (.reg [⟨(some 13), .mv (.const (.int .u32 (1859775393))), none⟩])
            (.seq (.reg [⟨(some 82), .mv (T 11), none⟩,
              ⟨(some 83), .bin .lss (T 82) (C (60)), none⟩])
            (.cond (T 83)
              (.seq (.reg [⟨(some 84), .mv (T 7), none⟩,
                ⟨(some 85), .mv (T 8), none⟩,
                ⟨(some 86), .bin .and (T 84) (T 85), none⟩,
                ⟨(some 87), .mv (T 7), none⟩,
                ⟨(some 88), .mv (T 9), none⟩,
                ⟨(some 89), .bin .and (T 87) (T 88), none⟩,
                ⟨(some 90), .bin .or (T 86) (T 89), none⟩,
                ⟨(some 91), .mv (T 8), none⟩,
                ⟨(some 92), .mv (T 9), none⟩,
                ⟨(some 93), .bin .and (T 91) (T 92), none⟩,
                ⟨(some 94), .bin .or (T 90) (T 93), none⟩,
                ⟨(some 12), .mv (T 94), none⟩])
              (.reg [⟨(some 13), .mv (.const (.int .u32 (2400959708))), none⟩]))
              .skip))))))
        (.seq (.reg [⟨(some 95), .mv (T 6), none⟩,
          ⟨(some 96), .call false n_drayageref02_left [(T 95), (C (5))], none⟩,
          ⟨(some 97), .mv (T 12), none⟩,
          ⟨(some 98), .bin .add (T 96) (T 97), none⟩,
          ⟨(some 99), .mv (T 10), none⟩,
          ⟨(some 100), .bin .add (T 98) (T 99), none⟩,
          ⟨(some 101), .mv (T 13), none⟩,
          ⟨(some 102), .bin .add (T 100) (T 101), none⟩,
          ⟨(some 103), .mv (T 1), none⟩,
          ⟨(some 104), .mv (T 11), none⟩,
          ⟨(some 105), .iaddr none (T 103) (T 104), none⟩,
          ⟨(some 106), .load none (T 105), none⟩,
          ⟨(some 107), .bin .add (T 102) (T 106), none⟩,
          ⟨(some 14), .mv (T 107), none⟩])
        (.seq (.reg [⟨(some 108), .mv (T 9), none⟩,
          ⟨(some 10), .mv (T 108), none⟩])
        (.seq (.reg [⟨(some 109), .mv (T 8), none⟩,
          ⟨(some 9), .mv (T 109), none⟩])
        (.seq (.reg [⟨(some 110), .mv (T 7), none⟩,
          ⟨(some 111), .call true n_drayageref02_left [(T 110), (C (30))], none⟩,
          ⟨(some 8), .mv (T 111), none⟩])
        (.seq (.reg [⟨(some 112), .mv (T 6), none⟩,
          ⟨(some 7), .mv (T 112), none⟩])
        (.reg [⟨(some 113), .mv (T 14), none⟩,
          ⟨(some 6), .mv (T 113), none⟩]))))))))))
      (.reg [⟨(some 63), .mv (T 11), none⟩,
        ⟨(some 64), .bin .add (T 63) (C (1)), none⟩,
        ⟨(some 11), .mv (T 64), none⟩]))))))
  (.seq (.reg [⟨(some 114), .mv (T 0), none⟩,
    ⟨(some 115), .iaddr none (T 114) (C (0)), none⟩,
    ⟨(some 116), .load none (T 115), none⟩,
    ⟨(some 117), .mv (T 6), none⟩,
    ⟨(some 118), .bin .add (T 116) (T 117), none⟩,
    ⟨(some 119), .mv (T 0), none⟩,
    ⟨(some 120), .iaddr none (T 119) (C (1)), none⟩,
    ⟨(some 121), .load none (T 120), none⟩,
    ⟨(some 122), .mv (T 7), none⟩,
    ⟨(some 123), .bin .add (T 121) (T 122), none⟩,
    ⟨(some 124), .mv (T 0), none⟩,
    ⟨(some 125), .iaddr none (T 124) (C (2)), none⟩,
    ⟨(some 126), .load none (T 125), none⟩,
    ⟨(some 127), .mv (T 8), none⟩,
    ⟨(some 128), .bin .add (T 126) (T 127), none⟩,
    ⟨(some 129), .mv (T 0), none⟩,
    ⟨(some 130), .iaddr none (T 129) (C (3)), none⟩,
    ⟨(some 131), .load none (T 130), none⟩,
    ⟨(some 132), .mv (T 9), none⟩,
    ⟨(some 133), .bin .add (T 131) (T 132), none⟩,
    ⟨(some 134), .mv (T 0), none⟩,
    ⟨(some 135), .iaddr none (T 134) (C (4)), none⟩,
    ⟨(some 136), .load none (T 135), none⟩,
    ⟨(some 137), .mv (T 10), none⟩,
    ⟨(some 138), .bin .add (T 136) (T 137), none⟩,
    ⟨(some 139), .bsl none [(T 118), (T 123), (T 128), (T 133), (T 138)], none⟩,
    ⟨(some 4), .mv (T 139), none⟩])
  .ret)))))
theorem e_drayageref02_sha1 : slimC Tryd.prog 140 (Tryd.f19.body.getD .skip) = s_drayageref02_sha1 := by kernel_rfl
theorem r_drayageref02_sha1 : slimRes Tryd.prog Tryd.f19 = some [.tmp 4] := by kernel_rfl

/-- The slim code of drayage/drayageref02.sha256. -/
def s_drayageref02_sha256 : SCode :=
  (.seq (.reg [⟨(some 4), .mv (.const (.slice none 0 0)), none⟩])
  (.seq (.seq (.reg [⟨(some 5), .mv (C (16)), none⟩])
  (.block 0
    (.loop
      (.seq (.seq (.reg [⟨(some 19), .mv (T 5), none⟩,
        ⟨(some 20), .bin .lss (T 19) (C (64)), none⟩])
      (.cond (T 20)
        .skip
        (.exit 0)))
      (.seq (.block 1
        (.seq (.reg [⟨(some 23), .mv (T 1), none⟩,
          ⟨(some 24), .mv (T 5), none⟩,
          ⟨(some 25), .bin .sub (T 24) (C (15)), none⟩,
          ⟨(some 26), .iaddr none (T 23) (T 25), none⟩,
          ⟨(some 27), .load none (T 26), none⟩,
          ⟨(some 28), .call false n_drayageref02_right [(T 27), (C (7))], none⟩,
          ⟨(some 29), .mv (T 1), none⟩,
          ⟨(some 30), .mv (T 5), none⟩,
          ⟨(some 31), .bin .sub (T 30) (C (15)), none⟩,
          ⟨(some 32), .iaddr none (T 29) (T 31), none⟩,
          ⟨(some 33), .load none (T 32), none⟩,
          ⟨(some 34), .call false n_drayageref02_right [(T 33), (C (18))], none⟩,
          ⟨(some 35), .bin .xor (T 28) (T 34), none⟩,
          ⟨(some 36), .mv (T 1), none⟩,
          ⟨(some 37), .mv (T 5), none⟩,
          ⟨(some 38), .bin .sub (T 37) (C (15)), none⟩,
          ⟨(some 39), .iaddr none (T 36) (T 38), none⟩,
          ⟨(some 40), .load none (T 39), none⟩,
          ⟨(some 41), .bin .shr (T 40) (.const (.int .u64 (3))), none⟩,
          ⟨(some 42), .bin .xor (T 35) (T 41), none⟩,
          ⟨(some 6), .mv (T 42), none⟩])
        (.seq (.reg [⟨(some 43), .mv (T 1), none⟩,
          ⟨(some 44), .mv (T 5), none⟩,
          ⟨(some 45), .bin .sub (T 44) (C (2)), none⟩,
          ⟨(some 46), .iaddr none (T 43) (T 45), none⟩,
          ⟨(some 47), .load none (T 46), none⟩,
          ⟨(some 48), .call false n_drayageref02_right [(T 47), (C (17))], none⟩,
          ⟨(some 49), .mv (T 1), none⟩,
          ⟨(some 50), .mv (T 5), none⟩,
          ⟨(some 51), .bin .sub (T 50) (C (2)), none⟩,
          ⟨(some 52), .iaddr none (T 49) (T 51), none⟩,
          ⟨(some 53), .load none (T 52), none⟩,
          ⟨(some 54), .call false n_drayageref02_right [(T 53), (C (19))], none⟩,
          ⟨(some 55), .bin .xor (T 48) (T 54), none⟩,
          ⟨(some 56), .mv (T 1), none⟩,
          ⟨(some 57), .mv (T 5), none⟩,
          ⟨(some 58), .bin .sub (T 57) (C (2)), none⟩,
          ⟨(some 59), .iaddr none (T 56) (T 58), none⟩,
          ⟨(some 60), .load none (T 59), none⟩,
          ⟨(some 61), .bin .shr (T 60) (.const (.int .u64 (10))), none⟩,
          ⟨(some 62), .bin .xor (T 55) (T 61), none⟩,
          ⟨(some 7), .mv (T 62), none⟩])
        (.reg [⟨(some 63), .mv (T 1), none⟩,
          ⟨(some 64), .mv (T 1), none⟩,
          ⟨(some 65), .mv (T 5), none⟩,
          ⟨(some 66), .bin .sub (T 65) (C (16)), none⟩,
          ⟨(some 67), .iaddr none (T 64) (T 66), none⟩,
          ⟨(some 68), .load none (T 67), none⟩,
          ⟨(some 69), .mv (T 6), none⟩,
          ⟨(some 70), .bin .add (T 68) (T 69), none⟩,
          ⟨(some 71), .mv (T 1), none⟩,
          ⟨(some 72), .mv (T 5), none⟩,
          ⟨(some 73), .bin .sub (T 72) (C (7)), none⟩,
          ⟨(some 74), .iaddr none (T 71) (T 73), none⟩,
          ⟨(some 75), .load none (T 74), none⟩,
          ⟨(some 76), .bin .add (T 70) (T 75), none⟩,
          ⟨(some 77), .mv (T 7), none⟩,
          ⟨(some 78), .bin .add (T 76) (T 77), none⟩,
          ⟨(some 79), .bslice none [(T 78)], none⟩,
          ⟨(some 80), .app none 4 (T 63) (T 79), none⟩,
          ⟨(some 1), .mv (T 80), none⟩]))))
      (.reg [⟨(some 21), .mv (T 5), none⟩,
        ⟨(some 22), .bin .add (T 21) (C (1)), none⟩,
        ⟨(some 5), .mv (T 22), none⟩]))))))
  (.seq (.reg [⟨(some 81), .mv (T 0), none⟩,
    ⟨(some 82), .iaddr none (T 81) (C (0)), none⟩,
    ⟨(some 83), .load none (T 82), none⟩,
    ⟨(some 84), .mv (T 0), none⟩,
    ⟨(some 85), .iaddr none (T 84) (C (1)), none⟩,
    ⟨(some 86), .load none (T 85), none⟩,
    ⟨(some 87), .mv (T 0), none⟩,
    ⟨(some 88), .iaddr none (T 87) (C (2)), none⟩,
    ⟨(some 89), .load none (T 88), none⟩,
    ⟨(some 90), .mv (T 0), none⟩,
    ⟨(some 91), .iaddr none (T 90) (C (3)), none⟩,
    ⟨(some 92), .load none (T 91), none⟩,
    ⟨(some 93), .mv (T 0), none⟩,
    ⟨(some 94), .iaddr none (T 93) (C (4)), none⟩,
    ⟨(some 95), .load none (T 94), none⟩,
    ⟨(some 96), .mv (T 0), none⟩,
    ⟨(some 97), .iaddr none (T 96) (C (5)), none⟩,
    ⟨(some 98), .load none (T 97), none⟩,
    ⟨(some 99), .mv (T 0), none⟩,
    ⟨(some 100), .iaddr none (T 99) (C (6)), none⟩,
    ⟨(some 101), .load none (T 100), none⟩,
    ⟨(some 102), .mv (T 0), none⟩,
    ⟨(some 103), .iaddr none (T 102) (C (7)), none⟩,
    ⟨(some 104), .load none (T 103), none⟩,
    ⟨(some 8), .mv (T 83), none⟩,
    ⟨(some 9), .mv (T 86), none⟩,
    ⟨(some 10), .mv (T 89), none⟩,
    ⟨(some 11), .mv (T 92), none⟩,
    ⟨(some 12), .mv (T 95), none⟩,
    ⟨(some 13), .mv (T 98), none⟩,
    ⟨(some 14), .mv (T 101), none⟩,
    ⟨(some 15), .mv (T 104), none⟩])
  (.seq (.seq (.reg [⟨(some 16), .mv (C (0)), none⟩])
  (.block 2
    (.loop
      (.seq (.seq (.reg [⟨(some 105), .mv (T 16), none⟩,
        ⟨(some 106), .bin .lss (T 105) (C (64)), none⟩])
      (.cond (T 106)
        .skip
        (.exit 2)))
      (.seq (.block 3
        (.seq (.reg [⟨(some 109), .mv (T 15), none⟩,
          ⟨(some 110), .mv (T 12), none⟩,
          ⟨(some 111), .call false n_drayageref02_right [(T 110), (C (6))], none⟩,
          ⟨(some 112), .mv (T 12), none⟩,
          ⟨(some 113), .call false n_drayageref02_right [(T 112), (C (11))], none⟩,
          ⟨(some 114), .bin .xor (T 111) (T 113), none⟩,
          ⟨(some 115), .mv (T 12), none⟩,
          ⟨(some 116), .call false n_drayageref02_right [(T 115), (C (25))], none⟩,
          ⟨(some 117), .bin .xor (T 114) (T 116), none⟩,
          ⟨(some 118), .bin .add (T 109) (T 117), none⟩,
          ⟨(some 119), .mv (T 12), none⟩,
          ⟨(some 120), .mv (T 13), none⟩,
          ⟨(some 121), .bin .and (T 119) (T 120), none⟩,
          ⟨(some 122), .mv (T 12), none⟩,
          ⟨(some 123), .un .xor (T 122), none⟩,
          ⟨(some 124), .mv (T 14), none⟩,
          ⟨(some 125), .bin .and (T 123) (T 124), none⟩,
          ⟨(some 126), .bin .xor (T 121) (T 125), none⟩,
          ⟨(some 127), .bin .add (T 118) (T 126), none⟩,
          ⟨(some 128), .mv (T 16), none⟩,
          ⟨(some 129), .iaddrA 64 none (.global 1) (T 128), none⟩,
          ⟨(some 130), .load none (T 129), none⟩,
          ⟨(some 131), .bin .add (T 127) (T 130), none⟩,
          ⟨(some 132), .mv (T 1), none⟩,
          ⟨(some 133), .mv (T 16), none⟩,
          ⟨(some 134), .iaddr none (T 132) (T 133), none⟩,
          ⟨(some 135), .load none (T 134), none⟩,
          ⟨(some 136), .bin .add (T 131) (T 135), none⟩,
          ⟨(some 17), .mv (T 136), none⟩])
        (.seq (.reg [⟨(some 137), .mv (T 8), none⟩,
          ⟨(some 138), .call true n_drayageref02_right [(T 137), (C (2))], none⟩,
          ⟨(some 139), .mv (T 8), none⟩,
          ⟨(some 140), .call true n_drayageref02_right [(T 139), (C (13))], none⟩,
          ⟨(some 141), .bin .xor (T 138) (T 140), none⟩,
          ⟨(some 142), .mv (T 8), none⟩,
          ⟨(some 143), .call true n_drayageref02_right [(T 142), (C (22))], none⟩,
          ⟨(some 144), .bin .xor (T 141) (T 143), none⟩,
          ⟨(some 145), .mv (T 8), none⟩,
          ⟨(some 146), .mv (T 9), none⟩,
          ⟨(some 147), .bin .and (T 145) (T 146), none⟩,
          ⟨(some 148), .mv (T 8), none⟩,
          ⟨(some 149), .mv (T 10), none⟩,
          ⟨(some 150), .bin .and (T 148) (T 149), none⟩,
          ⟨(some 151), .bin .xor (T 147) (T 150), none⟩,
          ⟨(some 152), .mv (T 9), none⟩,
          ⟨(some 153), .mv (T 10), none⟩,
          ⟨(some 154), .bin .and (T 152) (T 153), none⟩,
          ⟨(some 155), .bin .xor (T 151) (T 154), none⟩,
          ⟨(some 156), .bin .add (T 144) (T 155), none⟩,
          ⟨(some 18), .mv (T 156), none⟩])
        (.seq (.reg [⟨(some 157), .mv (T 14), none⟩,
          ⟨(some 15), .mv (T 157), none⟩])
        (.seq (.reg [⟨(some 158), .mv (T 13), none⟩,
          ⟨(some 14), .mv (T 158), none⟩])
        (.seq (.reg [⟨(some 159), .mv (T 12), none⟩,
          ⟨(some 13), .mv (T 159), none⟩])
        (.seq (.reg [⟨(some 160), .mv (T 11), none⟩,
          ⟨(some 161), .mv (T 17), none⟩,
          ⟨(some 162), .bin .add (T 160) (T 161), none⟩,
          ⟨(some 12), .mv (T 162), none⟩])
        (.seq (.reg [⟨(some 163), .mv (T 10), none⟩,
          ⟨(some 11), .mv (T 163), none⟩])
        (.seq (.reg [⟨(some 164), .mv (T 9), none⟩,
          ⟨(some 10), .mv (T 164), none⟩])
        (.seq (.reg [⟨(some 165), .mv (T 8), none⟩,
          ⟨(some 9), .mv (T 165), none⟩])
        (.reg [⟨(some 166), .mv (T 17), none⟩,
          ⟨(some 167), .mv (T 18), none⟩,
          ⟨(some 168), .bin .add (T 166) (T 167), none⟩,
          ⟨(some 8), .mv (T 168), none⟩])))))))))))
      (.reg [⟨(some 107), .mv (T 16), none⟩,
        ⟨(some 108), .bin .add (T 107) (C (1)), none⟩,
        ⟨(some 16), .mv (T 108), none⟩]))))))
  (.seq (.reg [⟨(some 169), .mv (T 0), none⟩,
    ⟨(some 170), .iaddr none (T 169) (C (0)), none⟩,
    ⟨(some 171), .load none (T 170), none⟩,
    ⟨(some 172), .mv (T 8), none⟩,
    ⟨(some 173), .bin .add (T 171) (T 172), none⟩,
    ⟨(some 174), .mv (T 0), none⟩,
    ⟨(some 175), .iaddr none (T 174) (C (1)), none⟩,
    ⟨(some 176), .load none (T 175), none⟩,
    ⟨(some 177), .mv (T 9), none⟩,
    ⟨(some 178), .bin .add (T 176) (T 177), none⟩,
    ⟨(some 179), .mv (T 0), none⟩,
    ⟨(some 180), .iaddr none (T 179) (C (2)), none⟩,
    ⟨(some 181), .load none (T 180), none⟩,
    ⟨(some 182), .mv (T 10), none⟩,
    ⟨(some 183), .bin .add (T 181) (T 182), none⟩,
    ⟨(some 184), .mv (T 0), none⟩,
    ⟨(some 185), .iaddr none (T 184) (C (3)), none⟩,
    ⟨(some 186), .load none (T 185), none⟩,
    ⟨(some 187), .mv (T 11), none⟩,
    ⟨(some 188), .bin .add (T 186) (T 187), none⟩,
    ⟨(some 189), .mv (T 0), none⟩,
    ⟨(some 190), .iaddr none (T 189) (C (4)), none⟩,
    ⟨(some 191), .load none (T 190), none⟩,
    ⟨(some 192), .mv (T 12), none⟩,
    ⟨(some 193), .bin .add (T 191) (T 192), none⟩,
    ⟨(some 194), .mv (T 0), none⟩,
    ⟨(some 195), .iaddr none (T 194) (C (5)), none⟩,
    ⟨(some 196), .load none (T 195), none⟩,
    ⟨(some 197), .mv (T 13), none⟩,
    ⟨(some 198), .bin .add (T 196) (T 197), none⟩,
    ⟨(some 199), .mv (T 0), none⟩,
    ⟨(some 200), .iaddr none (T 199) (C (6)), none⟩,
    ⟨(some 201), .load none (T 200), none⟩,
    ⟨(some 202), .mv (T 14), none⟩,
    ⟨(some 203), .bin .add (T 201) (T 202), none⟩,
    ⟨(some 204), .mv (T 0), none⟩,
    ⟨(some 205), .iaddr none (T 204) (C (7)), none⟩,
    ⟨(some 206), .load none (T 205), none⟩,
    ⟨(some 207), .mv (T 15), none⟩,
    ⟨(some 208), .bin .add (T 206) (T 207), none⟩,
    ⟨(some 209), .bsl none [(T 173), (T 178), (T 183), (T 188), (T 193), (T 198), (T 203), (T 208)], none⟩,
    ⟨(some 4), .mv (T 209), none⟩])
  .ret)))))
theorem e_drayageref02_sha256 : slimC Tryd.prog 210 (Tryd.f20.body.getD .skip) = s_drayageref02_sha256 := by kernel_rfl
theorem r_drayageref02_sha256 : slimRes Tryd.prog Tryd.f20 = some [.tmp 4] := by kernel_rfl

/-- The slim code of drayage/drayageref01.Be. -/
def s_drayageref01_Be : SCode :=
  (.seq (.reg [⟨(some 4), .mv (.const (.slice none 0 0)), none⟩])
  (.seq (.seq (.reg [⟨(some 7), .mv (T 1), none⟩,
    ⟨(some 8), .bin .lss (T 7) (C (1)), none⟩,
    ⟨(some 9), .mv (T 8), none⟩,
    ⟨(some 10), .mv (T 1), (some (9, false))⟩,
    ⟨(some 11), .bin .gtr (T 10) (C (8)), (some (9, false))⟩,
    ⟨(some 12), .pick (T 9) (.const (.bool true)) (T 11), none⟩])
  (.cond (T 12)
    (.seq (.reg [⟨(some 4), .mv (.const (.slice none 0 0)), none⟩])
    .ret)
    .skip))
  (.seq (.reg [⟨(some 5), .mv (.const (.slice none 0 0)), none⟩])
  (.seq (.seq (.reg [⟨(some 6), .mv (C (0)), none⟩])
  (.block 0
    (.loop
      (.seq (.seq (.reg [⟨(some 13), .mv (T 6), none⟩,
        ⟨(some 14), .mv (T 1), none⟩,
        ⟨(some 15), .bin .lss (T 13) (T 14), none⟩])
      (.cond (T 15)
        .skip
        (.exit 0)))
      (.seq (.block 1
        (.seq (.reg [⟨(some 18), .mv (T 0), none⟩,
          ⟨(some 19), .bin .rem (T 18) (.const (.int .u64 (256))), none⟩,
          ⟨(some 20), .ci .u8 (T 19), none⟩,
          ⟨(some 21), .bsl none [(T 20)], none⟩,
          ⟨(some 22), .mv (T 5), none⟩,
          ⟨(some 23), .app none 1 (T 21) (T 22), none⟩,
          ⟨(some 5), .mv (T 23), none⟩])
        (.reg [⟨(some 24), .mv (T 0), none⟩,
          ⟨(some 25), .bin .quo (T 24) (.const (.int .u64 (256))), none⟩,
          ⟨(some 0), .mv (T 25), none⟩])))
      (.reg [⟨(some 16), .mv (T 6), none⟩,
        ⟨(some 17), .bin .add (T 16) (C (1)), none⟩,
        ⟨(some 6), .mv (T 17), none⟩]))))))
  (.seq (.reg [⟨(some 26), .mv (T 5), none⟩,
    ⟨(some 4), .mv (T 26), none⟩])
  .ret)))))
theorem e_drayageref01_Be : slimC Tryd.prog 27 (Tryd.f21.body.getD .skip) = s_drayageref01_Be := by kernel_rfl
theorem r_drayageref01_Be : slimRes Tryd.prog Tryd.f21 = some [.tmp 4] := by kernel_rfl

/-- The slim code of drayage/drayageref01.Turned. -/
def s_drayageref01_Turned : SCode :=
  (.seq (.reg [⟨(some 2), .mv (.const (.slice none 0 0)), none⟩])
  (.seq (.reg [⟨(some 3), .mv (.const (.slice none 0 0)), none⟩])
  (.seq (.seq (.reg [⟨(some 5), .mv (T 0), none⟩,
    ⟨(some 6), .len false (T 5), none⟩,
    ⟨(some 7), .bin .sub (T 6) (C (1)), none⟩,
    ⟨(some 4), .mv (T 7), none⟩])
  (.block 0
    (.loop
      (.seq (.seq (.reg [⟨(some 8), .mv (T 4), none⟩,
        ⟨(some 9), .bin .geq (T 8) (C (0)), none⟩])
      (.cond (T 9)
        .skip
        (.exit 0)))
      (.seq (.block 1
        (.reg [⟨(some 12), .mv (T 3), none⟩,
          ⟨(some 13), .mv (T 0), none⟩,
          ⟨(some 14), .mv (T 4), none⟩,
          ⟨(some 15), .iaddr none (T 13) (T 14), none⟩,
          ⟨(some 16), .load none (T 15), none⟩,
          ⟨(some 17), .bslice none [(T 16)], none⟩,
          ⟨(some 18), .app none 1 (T 12) (T 17), none⟩,
          ⟨(some 3), .mv (T 18), none⟩]))
      (.reg [⟨(some 10), .mv (T 4), none⟩,
        ⟨(some 11), .bin .sub (T 10) (C (1)), none⟩,
        ⟨(some 4), .mv (T 11), none⟩]))))))
  (.seq (.reg [⟨(some 19), .mv (T 3), none⟩,
    ⟨(some 2), .mv (T 19), none⟩])
  .ret))))
theorem e_drayageref01_Turned : slimC Tryd.prog 20 (Tryd.f22.body.getD .skip) = s_drayageref01_Turned := by kernel_rfl
theorem r_drayageref01_Turned : slimRes Tryd.prog Tryd.f22 = some [.tmp 2] := by kernel_rfl

/-- The slim code of drayage/digest.start. -/
def s_digest_start : SCode :=
  (.seq (.reg [⟨(some 2), .mv (.const (.slice none 0 0)), none⟩])
  (.seq (.seq (.reg [⟨(some 3), .mv (T 0), none⟩])
  (.block 0
    (.seq (.reg [⟨(some 5), .bin .eql (T 3) (C (1)), none⟩,
      ⟨(some 4), .mv (T 5), none⟩])
    (.cond (T 4)
      (.seq (.reg [⟨(some 6), .bsl none [(.const (.int .u32 (1732584193))), (.const (.int .u32 (4023233417))), (.const (.int .u32 (2562383102))), (.const (.int .u32 (271733878)))], none⟩,
        ⟨(some 2), .mv (T 6), none⟩])
      .ret)
      (.seq (.reg [⟨(some 8), .bin .eql (T 3) (C (2)), none⟩,
        ⟨(some 7), .mv (T 8), none⟩])
      (.cond (T 7)
        (.seq (.reg [⟨(some 9), .bsl none [(.const (.int .u32 (1732584193))), (.const (.int .u32 (4023233417))), (.const (.int .u32 (2562383102))), (.const (.int .u32 (271733878))), (.const (.int .u32 (3285377520)))], none⟩,
          ⟨(some 2), .mv (T 9), none⟩])
        .ret)
        (.seq (.reg [⟨(some 11), .bin .eql (T 3) (C (3)), none⟩,
          ⟨(some 10), .mv (T 11), none⟩])
        (.cond (T 10)
          (.seq (.reg [⟨(some 12), .bsl none [(.const (.int .u32 (1779033703))), (.const (.int .u32 (3144134277))), (.const (.int .u32 (1013904242))), (.const (.int .u32 (2773480762))), (.const (.int .u32 (1359893119))), (.const (.int .u32 (2600822924))), (.const (.int .u32 (528734635))), (.const (.int .u32 (1541459225)))], none⟩,
            ⟨(some 2), .mv (T 12), none⟩])
          .ret)
          .skip))))))))
  (.seq (.reg [⟨(some 2), .mv (.const (.slice none 0 0)), none⟩])
  .ret)))
theorem e_digest_start : slimC Tryd.prog 13 (Tryd.f23.body.getD .skip) = s_digest_start := by kernel_rfl
theorem r_digest_start : slimRes Tryd.prog Tryd.f23 = some [.tmp 2] := by kernel_rfl

/-- The slim code of (*drayage/digest.Hash).take. -/
def s_digest_Hash_take : SCode :=
  (.seq (.reg [⟨(some 4), .mv (T 0), none⟩,
    ⟨(some 5), .nilc (T 4), none⟩,
    ⟨(some 6), .faddr 0 (T 5), none⟩,
    ⟨(some 7), .load none (T 6), none⟩])
  (.block 0
    (.seq (.reg [⟨(some 9), .bin .eql (T 7) (C (1)), none⟩,
      ⟨(some 8), .mv (T 9), none⟩])
    (.cond (T 8)
      (.reg [⟨(some 10), .mv (T 0), none⟩,
        ⟨(some 11), .nilc (T 10), none⟩,
        ⟨(some 12), .faddr 1 (T 11), none⟩,
        ⟨(some 13), .load none (T 12), none⟩,
        ⟨(some 14), .mv (T 1), none⟩,
        ⟨(some 15), .call true n_digest_takeMd5 [(T 13), (T 14)], none⟩])
      (.seq (.reg [⟨(some 17), .bin .eql (T 7) (C (2)), none⟩,
        ⟨(some 16), .mv (T 17), none⟩])
      (.cond (T 16)
        (.reg [⟨(some 18), .mv (T 0), none⟩,
          ⟨(some 19), .nilc (T 18), none⟩,
          ⟨(some 20), .faddr 1 (T 19), none⟩,
          ⟨(some 21), .load none (T 20), none⟩,
          ⟨(some 22), .mv (T 1), none⟩,
          ⟨(some 23), .call true n_digest_takeSha1 [(T 21), (T 22)], none⟩])
        (.seq (.reg [⟨(some 25), .bin .eql (T 7) (C (3)), none⟩,
          ⟨(some 24), .mv (T 25), none⟩])
        (.cond (T 24)
          (.reg [⟨(some 26), .mv (T 0), none⟩,
            ⟨(some 27), .nilc (T 26), none⟩,
            ⟨(some 28), .faddr 1 (T 27), none⟩,
            ⟨(some 29), .load none (T 28), none⟩,
            ⟨(some 30), .mv (T 1), none⟩,
            ⟨(some 31), .call true n_digest_takeSha256 [(T 29), (T 30)], none⟩])
          .skip))))))))
theorem e_digest_Hash_take : slimC Tryd.prog 32 (Tryd.f24.body.getD .skip) = s_digest_Hash_take := by kernel_rfl
theorem r_digest_Hash_take : slimRes Tryd.prog Tryd.f24 = some [] := by kernel_rfl

/-- The slim code of (*drayage/digest.Hash).end. -/
def s_digest_Hash_end : SCode :=
  (.seq (.reg [⟨(some 2), .mv (.const (.slice none 0 0)), none⟩])
  (.seq (.reg [⟨(some 6), .mv (T 0), none⟩,
    ⟨(some 7), .nilc (T 6), none⟩,
    ⟨(some 8), .faddr 2 (T 7), none⟩,
    ⟨(some 9), .load none (T 8), none⟩,
    ⟨(some 10), .bin .rem (T 9) (.const (.int .u64 (64))), none⟩,
    ⟨(some 11), .ci .i64 (T 10), none⟩,
    ⟨(some 3), .mv (T 11), none⟩])
  (.seq (.reg [⟨(some 12), .mv (T 3), none⟩,
    ⟨(some 13), .bin .sub (C (119)) (T 12), none⟩,
    ⟨(some 14), .bin .rem (T 13) (C (64)), none⟩,
    ⟨(some 4), .mv (T 14), none⟩])
  (.seq (.reg [⟨(some 15), .mv (T 4), none⟩,
    ⟨(some 16), .bin .add (C (1)) (T 15), none⟩,
    ⟨(some 17), .mks none 1 [(.int .u8 (0))] (T 16) (T 16), none⟩,
    ⟨(some 5), .mv (T 17), none⟩])
  (.seq (.reg [⟨(some 18), .mv (T 5), none⟩,
    ⟨(some 19), .iaddr none (T 18) (C (0)), none⟩,
    ⟨none, .store none (T 19) (.const (.int .u8 (128))), none⟩])
  (.seq (.reg [⟨(some 20), .mv (T 5), none⟩,
    ⟨(some 21), .mv (T 0), none⟩,
    ⟨(some 22), .mv (T 0), none⟩,
    ⟨(some 23), .nilc (T 22), none⟩,
    ⟨(some 24), .faddr 2 (T 23), none⟩,
    ⟨(some 25), .load none (T 24), none⟩,
    ⟨(some 26), .bin .mul (.const (.int .u64 (8))) (T 25), none⟩,
    ⟨(some 27), .call true n_digest_Hash_number [(T 21), (T 26), (C (8))], none⟩,
    ⟨(some 28), .app none 1 (T 20) (T 27), none⟩,
    ⟨(some 2), .mv (T 28), none⟩])
  .ret))))))
theorem e_digest_Hash_end : slimC Tryd.prog 29 (Tryd.f25.body.getD .skip) = s_digest_Hash_end := by kernel_rfl
theorem r_digest_Hash_end : slimRes Tryd.prog Tryd.f25 = some [.tmp 2] := by kernel_rfl

/-- The slim code of (*drayage/digest.Hash).number. -/
def s_digest_Hash_number : SCode :=
  (.seq (.reg [⟨(some 6), .mv (.const (.slice none 0 0)), none⟩])
  (.seq (.seq (.reg [⟨(some 7), .mv (T 0), none⟩,
    ⟨(some 8), .nilc (T 7), none⟩,
    ⟨(some 9), .faddr 0 (T 8), none⟩,
    ⟨(some 10), .load none (T 9), none⟩,
    ⟨(some 11), .bin .eql (T 10) (C (1)), none⟩])
  (.cond (T 11)
    (.seq (.reg [⟨(some 12), .mv (T 1), none⟩,
      ⟨(some 13), .mv (T 2), none⟩,
      ⟨(some 14), .call true n_codec_Le [(T 12), (T 13)], none⟩,
      ⟨(some 6), .mv (T 14), none⟩])
    .ret)
    .skip))
  (.seq (.reg [⟨(some 15), .mv (T 1), none⟩,
    ⟨(some 16), .mv (T 2), none⟩,
    ⟨(some 17), .call true n_codec_Be [(T 15), (T 16)], none⟩,
    ⟨(some 6), .mv (T 17), none⟩])
  .ret)))
theorem e_digest_Hash_number : slimC Tryd.prog 18 (Tryd.f26.body.getD .skip) = s_digest_Hash_number := by kernel_rfl
theorem r_digest_Hash_number : slimRes Tryd.prog Tryd.f26 = some [.tmp 6] := by kernel_rfl

/-- The slim code of drayage/drayageref01.GetBe. -/
def s_drayageref01_GetBe : SCode :=
  (.seq (.reg [⟨(some 6), .mv (.const (.int .u64 (0))), none⟩,
    ⟨(some 7), .mv (.const (.bool false)), none⟩])
  (.seq (.seq (.reg [⟨(some 10), .mv (T 2), none⟩,
    ⟨(some 11), .bin .lss (T 10) (C (1)), none⟩,
    ⟨(some 12), .mv (T 11), none⟩,
    ⟨(some 13), .mv (T 2), (some (12, false))⟩,
    ⟨(some 14), .bin .gtr (T 13) (C (8)), (some (12, false))⟩,
    ⟨(some 15), .pick (T 12) (.const (.bool true)) (T 14), none⟩,
    ⟨(some 16), .mv (T 15), none⟩,
    ⟨(some 17), .mv (T 1), (some (16, false))⟩,
    ⟨(some 18), .bin .lss (T 17) (C (0)), (some (16, false))⟩,
    ⟨(some 19), .pick (T 16) (.const (.bool true)) (T 18), none⟩,
    ⟨(some 20), .mv (T 19), none⟩,
    ⟨(some 21), .mv (T 1), (some (20, false))⟩,
    ⟨(some 22), .mv (T 0), (some (20, false))⟩,
    ⟨(some 23), .len false (T 22), (some (20, false))⟩,
    ⟨(some 24), .bin .gtr (T 21) (T 23), (some (20, false))⟩,
    ⟨(some 25), .pick (T 20) (.const (.bool true)) (T 24), none⟩,
    ⟨(some 26), .mv (T 25), none⟩,
    ⟨(some 27), .mv (T 2), (some (26, false))⟩,
    ⟨(some 28), .mv (T 0), (some (26, false))⟩,
    ⟨(some 29), .len false (T 28), (some (26, false))⟩,
    ⟨(some 30), .mv (T 1), (some (26, false))⟩,
    ⟨(some 31), .bin .sub (T 29) (T 30), (some (26, false))⟩,
    ⟨(some 32), .bin .gtr (T 27) (T 31), (some (26, false))⟩,
    ⟨(some 33), .pick (T 26) (.const (.bool true)) (T 32), none⟩])
  (.cond (T 33)
    (.seq (.reg [⟨(some 6), .mv (.const (.int .u64 (0))), none⟩,
      ⟨(some 7), .mv (.const (.bool false)), none⟩])
    .ret)
    .skip))
  (.seq (.reg [⟨(some 8), .mv (.const (.int .u64 (0))), none⟩])
  (.seq (.seq (.reg [⟨(some 9), .mv (C (0)), none⟩])
  (.block 0
    (.loop
      (.seq (.seq (.reg [⟨(some 34), .mv (T 9), none⟩,
        ⟨(some 35), .mv (T 2), none⟩,
        ⟨(some 36), .bin .lss (T 34) (T 35), none⟩])
      (.cond (T 36)
        .skip
        (.exit 0)))
      (.seq (.block 1
        (.reg [⟨(some 39), .mv (T 8), none⟩,
          ⟨(some 40), .bin .mul (T 39) (.const (.int .u64 (256))), none⟩,
          ⟨(some 41), .mv (T 0), none⟩,
          ⟨(some 42), .mv (T 1), none⟩,
          ⟨(some 43), .mv (T 9), none⟩,
          ⟨(some 44), .bin .add (T 42) (T 43), none⟩,
          ⟨(some 45), .iaddr none (T 41) (T 44), none⟩,
          ⟨(some 46), .load none (T 45), none⟩,
          ⟨(some 47), .ci .u64 (T 46), none⟩,
          ⟨(some 48), .bin .add (T 40) (T 47), none⟩,
          ⟨(some 8), .mv (T 48), none⟩]))
      (.reg [⟨(some 37), .mv (T 9), none⟩,
        ⟨(some 38), .bin .add (T 37) (C (1)), none⟩,
        ⟨(some 9), .mv (T 38), none⟩]))))))
  (.seq (.reg [⟨(some 49), .mv (T 8), none⟩,
    ⟨(some 6), .mv (T 49), none⟩,
    ⟨(some 7), .mv (.const (.bool true)), none⟩])
  .ret)))))
theorem e_drayageref01_GetBe : slimC Tryd.prog 50 (Tryd.f27.body.getD .skip) = s_drayageref01_GetBe := by kernel_rfl
theorem r_drayageref01_GetBe : slimRes Tryd.prog Tryd.f27 = some [.tmp 6, .tmp 7] := by kernel_rfl

/-- The slim code of drayage/drayageref01.GetLe. -/
def s_drayageref01_GetLe : SCode :=
  (.seq (.reg [⟨(some 6), .mv (.const (.int .u64 (0))), none⟩,
    ⟨(some 7), .mv (.const (.bool false)), none⟩])
  (.seq (.seq (.reg [⟨(some 8), .mv (T 2), none⟩,
    ⟨(some 9), .bin .lss (T 8) (C (1)), none⟩,
    ⟨(some 10), .mv (T 9), none⟩,
    ⟨(some 11), .mv (T 2), (some (10, false))⟩,
    ⟨(some 12), .bin .gtr (T 11) (C (8)), (some (10, false))⟩,
    ⟨(some 13), .pick (T 10) (.const (.bool true)) (T 12), none⟩,
    ⟨(some 14), .mv (T 13), none⟩,
    ⟨(some 15), .mv (T 1), (some (14, false))⟩,
    ⟨(some 16), .bin .lss (T 15) (C (0)), (some (14, false))⟩,
    ⟨(some 17), .pick (T 14) (.const (.bool true)) (T 16), none⟩,
    ⟨(some 18), .mv (T 17), none⟩,
    ⟨(some 19), .mv (T 1), (some (18, false))⟩,
    ⟨(some 20), .mv (T 0), (some (18, false))⟩,
    ⟨(some 21), .len false (T 20), (some (18, false))⟩,
    ⟨(some 22), .bin .gtr (T 19) (T 21), (some (18, false))⟩,
    ⟨(some 23), .pick (T 18) (.const (.bool true)) (T 22), none⟩,
    ⟨(some 24), .mv (T 23), none⟩,
    ⟨(some 25), .mv (T 2), (some (24, false))⟩,
    ⟨(some 26), .mv (T 0), (some (24, false))⟩,
    ⟨(some 27), .len false (T 26), (some (24, false))⟩,
    ⟨(some 28), .mv (T 1), (some (24, false))⟩,
    ⟨(some 29), .bin .sub (T 27) (T 28), (some (24, false))⟩,
    ⟨(some 30), .bin .gtr (T 25) (T 29), (some (24, false))⟩,
    ⟨(some 31), .pick (T 24) (.const (.bool true)) (T 30), none⟩])
  (.cond (T 31)
    (.seq (.reg [⟨(some 6), .mv (.const (.int .u64 (0))), none⟩,
      ⟨(some 7), .mv (.const (.bool false)), none⟩])
    .ret)
    .skip))
  (.seq (.reg [⟨(some 32), .mv (T 0), none⟩,
    ⟨(some 33), .mv (T 1), none⟩,
    ⟨(some 34), .mv (T 1), none⟩,
    ⟨(some 35), .mv (T 2), none⟩,
    ⟨(some 36), .bin .add (T 34) (T 35), none⟩,
    ⟨(some 37), .sl none (T 32) (some (T 33)) (some (T 36)), none⟩,
    ⟨(some 38), .call true n_drayageref01_Turned [(T 37)], none⟩,
    ⟨(some 39), .mv (T 2), none⟩,
    ⟨(some 40), .call true n_drayageref01_GetBe [(T 38), (C (0)), (T 39)], none⟩,
    ⟨(some 41), .ext (T 40) 0, none⟩,
    ⟨(some 42), .ext (T 40) 1, none⟩,
    ⟨(some 6), .mv (T 41), none⟩,
    ⟨(some 7), .mv (T 42), none⟩])
  .ret)))
theorem e_drayageref01_GetLe : slimC Tryd.prog 43 (Tryd.f28.body.getD .skip) = s_drayageref01_GetLe := by kernel_rfl
theorem r_drayageref01_GetLe : slimRes Tryd.prog Tryd.f28 = some [.tmp 6, .tmp 7] := by kernel_rfl

/-- The slim code of drayage/drayageref02.left. -/
def s_drayageref02_left : SCode :=
  (.seq (.reg [⟨(some 4), .mv (.const (.int .u32 (0))), none⟩])
  (.seq (.reg [⟨(some 5), .mv (T 0), none⟩,
    ⟨(some 6), .mv (T 1), none⟩,
    ⟨(some 7), .ci .u64 (T 6), none⟩,
    ⟨(some 8), .bin .shl (T 5) (T 7), none⟩,
    ⟨(some 9), .mv (T 0), none⟩,
    ⟨(some 10), .mv (T 1), none⟩,
    ⟨(some 11), .bin .sub (C (32)) (T 10), none⟩,
    ⟨(some 12), .ci .u64 (T 11), none⟩,
    ⟨(some 13), .bin .shr (T 9) (T 12), none⟩,
    ⟨(some 14), .bin .or (T 8) (T 13), none⟩,
    ⟨(some 4), .mv (T 14), none⟩])
  .ret))
theorem e_drayageref02_left : slimC Tryd.prog 15 (Tryd.f29.body.getD .skip) = s_drayageref02_left := by kernel_rfl
theorem r_drayageref02_left : slimRes Tryd.prog Tryd.f29 = some [.tmp 4] := by kernel_rfl

/-- The slim code of drayage/drayageref02.turn. -/
def s_drayageref02_turn : SCode :=
  (.seq (.reg [⟨(some 2), .mv (C (0)), none⟩])
  (.seq (.reg [⟨(some 4), .bsl none [(C (7)), (C (12)), (C (17)), (C (22)), (C (5)), (C (9)), (C (14)), (C (20)), (C (4)), (C (11)), (C (16)), (C (23)), (C (6)), (C (10)), (C (15)), (C (21))], none⟩,
    ⟨(some 3), .mv (T 4), none⟩])
  (.seq (.reg [⟨(some 5), .mv (T 3), none⟩,
    ⟨(some 6), .mv (T 0), none⟩,
    ⟨(some 7), .bin .quo (T 6) (C (16)), none⟩,
    ⟨(some 8), .bin .mul (C (4)) (T 7), none⟩,
    ⟨(some 9), .mv (T 0), none⟩,
    ⟨(some 10), .bin .rem (T 9) (C (4)), none⟩,
    ⟨(some 11), .bin .add (T 8) (T 10), none⟩,
    ⟨(some 12), .iaddr none (T 5) (T 11), none⟩,
    ⟨(some 13), .load none (T 12), none⟩,
    ⟨(some 2), .mv (T 13), none⟩])
  .ret)))
theorem e_drayageref02_turn : slimC Tryd.prog 14 (Tryd.f30.body.getD .skip) = s_drayageref02_turn := by kernel_rfl
theorem r_drayageref02_turn : slimRes Tryd.prog Tryd.f30 = some [.tmp 2] := by kernel_rfl

/-- The slim code of drayage/drayageref02.right. -/
def s_drayageref02_right : SCode :=
  (.seq (.reg [⟨(some 4), .mv (.const (.int .u32 (0))), none⟩])
  (.seq (.reg [⟨(some 5), .mv (T 0), none⟩,
    ⟨(some 6), .mv (T 1), none⟩,
    ⟨(some 7), .bin .sub (C (32)) (T 6), none⟩,
    ⟨(some 8), .call true n_drayageref02_left [(T 5), (T 7)], none⟩,
    ⟨(some 4), .mv (T 8), none⟩])
  .ret))
theorem e_drayageref02_right : slimC Tryd.prog 9 (Tryd.f31.body.getD .skip) = s_drayageref02_right := by kernel_rfl
theorem r_drayageref02_right : slimRes Tryd.prog Tryd.f31 = some [.tmp 4] := by kernel_rfl

/-- The slim code of drayage/digest.takeMd5. -/
def s_digest_takeMd5 : SCode :=
  (.seq (.reg [⟨(some 4), .alloc (List.replicate 16 (.int .u32 (0))), none⟩])
  (.seq (.seq (.reg [⟨(some 16), .mv (C (0)), none⟩])
  (.block 0
    (.loop
      (.seq (.reg [⟨(some 17), .bin .lss (T 16) (C (16)), none⟩])
      (.seq (.cond (T 17)
        .skip
        (.exit 0))
      (.seq (.block 1
        (.seq (.reg [⟨(some 18), .mv (T 16), none⟩,
          ⟨(some 5), .mv (T 18), none⟩])
        (.seq (.reg [⟨(some 20), .mv (T 1), none⟩,
          ⟨(some 21), .mv (T 5), none⟩,
          ⟨(some 22), .bin .mul (T 21) (C (4)), none⟩,
          ⟨(some 23), .call true n_codec_GetLe [(T 20), (T 22), (C (4))], none⟩,
          ⟨(some 19), .mv (T 23), none⟩,
          ⟨(some 24), .ext (T 19) 0, none⟩,
          ⟨(some 25), .ext (T 19) 1, none⟩,
          ⟨(some 6), .mv (T 24), none⟩,
          ⟨(some 7), .mv (T 25), none⟩])
        (.reg [⟨(some 26), .mv (T 5), none⟩,
          ⟨(some 27), .mv (T 6), none⟩,
          ⟨(some 28), .ci .u32 (T 27), none⟩,
          ⟨(some 29), .iaddrA 16 none (T 4) (T 26), none⟩,
          ⟨none, .store none (T 29) (T 28), none⟩]))))
      (.reg [⟨(some 30), .bin .add (T 16) (C (1)), none⟩,
        ⟨(some 16), .mv (T 30), none⟩])))))))
  (.seq (.reg [⟨(some 31), .mv (T 0), none⟩,
    ⟨(some 32), .iaddr none (T 31) (C (0)), none⟩,
    ⟨(some 33), .load none (T 32), none⟩,
    ⟨(some 34), .mv (T 0), none⟩,
    ⟨(some 35), .iaddr none (T 34) (C (1)), none⟩,
    ⟨(some 36), .load none (T 35), none⟩,
    ⟨(some 37), .mv (T 0), none⟩,
    ⟨(some 38), .iaddr none (T 37) (C (2)), none⟩,
    ⟨(some 39), .load none (T 38), none⟩,
    ⟨(some 40), .mv (T 0), none⟩,
    ⟨(some 41), .iaddr none (T 40) (C (3)), none⟩,
    ⟨(some 42), .load none (T 41), none⟩,
    ⟨(some 8), .mv (T 33), none⟩,
    ⟨(some 9), .mv (T 36), none⟩,
    ⟨(some 10), .mv (T 39), none⟩,
    ⟨(some 11), .mv (T 42), none⟩])
  (.seq (.seq (.reg [⟨(some 43), .mv (C (0)), none⟩])
  (.block 2
    (.loop
      (.seq (.reg [⟨(some 44), .bin .lss (T 43) (C (64)), none⟩])
      (.seq (.cond (T 44)
        .skip
        (.exit 2))
      (.seq (.block 3
        (.seq (.reg [⟨(some 45), .mv (T 43), none⟩,
          ⟨(some 12), .mv (T 45), none⟩])
        (.seq (.reg [⟨(some 47), .mv (T 12), none⟩,
          ⟨(some 48), .mv (T 9), none⟩,
          ⟨(some 49), .mv (T 10), none⟩,
          ⟨(some 50), .mv (T 11), none⟩,
          ⟨(some 51), .call true n_digest_md5Mix [(T 47), (T 48), (T 49), (T 50)], none⟩,
          ⟨(some 46), .mv (T 51), none⟩,
          ⟨(some 52), .ext (T 46) 0, none⟩,
          ⟨(some 53), .ext (T 46) 1, none⟩,
          ⟨(some 13), .mv (T 52), none⟩,
          ⟨(some 14), .mv (T 53), none⟩])
        (.seq (.reg [⟨(some 54), .mv (T 8), none⟩,
          ⟨(some 55), .mv (T 13), none⟩,
          ⟨(some 56), .bin .add (T 54) (T 55), none⟩,
          ⟨(some 57), .mv (T 12), none⟩,
          ⟨(some 58), .iaddrA 64 none (.global 0) (T 57), none⟩,
          ⟨(some 59), .load none (T 58), none⟩,
          ⟨(some 60), .bin .add (T 56) (T 59), none⟩,
          ⟨(some 61), .mv (T 14), none⟩,
          ⟨(some 62), .iaddrA 16 none (T 4) (T 61), none⟩,
          ⟨(some 63), .load none (T 62), none⟩,
          ⟨(some 64), .bin .add (T 60) (T 63), none⟩,
          ⟨(some 65), .mv (T 12), none⟩,
          ⟨(some 66), .bin .quo (T 65) (C (16)), none⟩,
          ⟨(some 67), .mv (T 12), none⟩,
          ⟨(some 68), .bin .rem (T 67) (C (4)), none⟩,
          ⟨(some 69), .iaddrA 4 (some 4) (.global 2) (T 66), none⟩,
          ⟨(some 70), .iaddrA 4 none (T 69) (T 68), none⟩,
          ⟨(some 71), .load none (T 70), none⟩,
          ⟨(some 72), .call true n_bits_RotateLeft32 [(T 64), (T 71)], none⟩,
          ⟨(some 15), .mv (T 72), none⟩])
        (.reg [⟨(some 73), .mv (T 11), none⟩,
          ⟨(some 74), .mv (T 9), none⟩,
          ⟨(some 75), .mv (T 15), none⟩,
          ⟨(some 76), .bin .add (T 74) (T 75), none⟩,
          ⟨(some 77), .mv (T 9), none⟩,
          ⟨(some 78), .mv (T 10), none⟩,
          ⟨(some 8), .mv (T 73), none⟩,
          ⟨(some 9), .mv (T 76), none⟩,
          ⟨(some 10), .mv (T 77), none⟩,
          ⟨(some 11), .mv (T 78), none⟩])))))
      (.reg [⟨(some 79), .bin .add (T 43) (C (1)), none⟩,
        ⟨(some 43), .mv (T 79), none⟩])))))))
  (.reg [⟨(some 80), .mv (T 0), none⟩,
    ⟨(some 81), .mv (T 8), none⟩,
    ⟨(some 82), .mv (T 9), none⟩,
    ⟨(some 83), .mv (T 10), none⟩,
    ⟨(some 84), .mv (T 11), none⟩,
    ⟨(some 85), .bsl none [(T 81), (T 82), (T 83), (T 84)], none⟩,
    ⟨(some 86), .call true n_digest_add [(T 80), (T 85)], none⟩])))))
theorem e_digest_takeMd5 : slimC Tryd.prog 87 (Tryd.f32.body.getD .skip) = s_digest_takeMd5 := by kernel_rfl
theorem r_digest_takeMd5 : slimRes Tryd.prog Tryd.f32 = some [] := by kernel_rfl

/-- The slim code of drayage/digest.takeSha1. -/
def s_digest_takeSha1 : SCode :=
  (.seq (.reg [⟨(some 4), .alloc (List.replicate 80 (.int .u32 (0))), none⟩])
  (.seq (.reg [⟨(some 15), .sla 80 none (T 4) none none, none⟩,
    ⟨(some 16), .mv (T 1), none⟩,
    ⟨(some 17), .call true n_digest_putWords [(T 15), (T 16)], none⟩])
  (.seq (.seq (.reg [⟨(some 5), .mv (C (16)), none⟩])
  (.block 0
    (.loop
      (.seq (.seq (.reg [⟨(some 18), .mv (T 5), none⟩,
        ⟨(some 19), .bin .lss (T 18) (C (80)), none⟩])
      (.cond (T 19)
        .skip
        (.exit 0)))
      (.seq (.block 1
        (.reg [⟨(some 22), .mv (T 5), none⟩,
          ⟨(some 23), .mv (T 5), none⟩,
          ⟨(some 24), .bin .sub (T 23) (C (3)), none⟩,
          ⟨(some 25), .iaddrA 80 none (T 4) (T 24), none⟩,
          ⟨(some 26), .load none (T 25), none⟩,
          ⟨(some 27), .mv (T 5), none⟩,
          ⟨(some 28), .bin .sub (T 27) (C (8)), none⟩,
          ⟨(some 29), .iaddrA 80 none (T 4) (T 28), none⟩,
          ⟨(some 30), .load none (T 29), none⟩,
          ⟨(some 31), .bin .xor (T 26) (T 30), none⟩,
          ⟨(some 32), .mv (T 5), none⟩,
          ⟨(some 33), .bin .sub (T 32) (C (14)), none⟩,
          ⟨(some 34), .iaddrA 80 none (T 4) (T 33), none⟩,
          ⟨(some 35), .load none (T 34), none⟩,
          ⟨(some 36), .bin .xor (T 31) (T 35), none⟩,
          ⟨(some 37), .mv (T 5), none⟩,
          ⟨(some 38), .bin .sub (T 37) (C (16)), none⟩,
          ⟨(some 39), .iaddrA 80 none (T 4) (T 38), none⟩,
          ⟨(some 40), .load none (T 39), none⟩,
          ⟨(some 41), .bin .xor (T 36) (T 40), none⟩,
          ⟨(some 42), .call true n_bits_RotateLeft32 [(T 41), (C (1))], none⟩,
          ⟨(some 43), .iaddrA 80 none (T 4) (T 22), none⟩,
          ⟨none, .store none (T 43) (T 42), none⟩]))
      (.reg [⟨(some 20), .mv (T 5), none⟩,
        ⟨(some 21), .bin .add (T 20) (C (1)), none⟩,
        ⟨(some 5), .mv (T 21), none⟩]))))))
  (.seq (.reg [⟨(some 44), .mv (T 0), none⟩,
    ⟨(some 45), .iaddr none (T 44) (C (0)), none⟩,
    ⟨(some 46), .load none (T 45), none⟩,
    ⟨(some 47), .mv (T 0), none⟩,
    ⟨(some 48), .iaddr none (T 47) (C (1)), none⟩,
    ⟨(some 49), .load none (T 48), none⟩,
    ⟨(some 50), .mv (T 0), none⟩,
    ⟨(some 51), .iaddr none (T 50) (C (2)), none⟩,
    ⟨(some 52), .load none (T 51), none⟩,
    ⟨(some 53), .mv (T 0), none⟩,
    ⟨(some 54), .iaddr none (T 53) (C (3)), none⟩,
    ⟨(some 55), .load none (T 54), none⟩,
    ⟨(some 56), .mv (T 0), none⟩,
    ⟨(some 57), .iaddr none (T 56) (C (4)), none⟩,
    ⟨(some 58), .load none (T 57), none⟩,
    ⟨(some 6), .mv (T 46), none⟩,
    ⟨(some 7), .mv (T 49), none⟩,
    ⟨(some 8), .mv (T 52), none⟩,
    ⟨(some 9), .mv (T 55), none⟩,
    ⟨(some 10), .mv (T 58), none⟩])
  (.seq (.seq (.reg [⟨(some 59), .mv (C (0)), none⟩])
  (.block 2
    (.loop
      (.seq (.reg [⟨(some 60), .bin .lss (T 59) (C (80)), none⟩])
      (.seq (.cond (T 60)
        .skip
        (.exit 2))
      (.seq (.block 3
        (.seq (.reg [⟨(some 61), .mv (T 59), none⟩,
          ⟨(some 11), .mv (T 61), none⟩])
        (.seq (.reg [⟨(some 63), .mv (T 11), none⟩,
          ⟨(some 64), .mv (T 7), none⟩,
          ⟨(some 65), .mv (T 8), none⟩,
          ⟨(some 66), .mv (T 9), none⟩,
          ⟨(some 67), .call true n_digest_sha1Mix [(T 63), (T 64), (T 65), (T 66)], none⟩,
          ⟨(some 62), .mv (T 67), none⟩,
          ⟨(some 68), .ext (T 62) 0, none⟩,
          ⟨(some 69), .ext (T 62) 1, none⟩,
          ⟨(some 12), .mv (T 68), none⟩,
          ⟨(some 13), .mv (T 69), none⟩])
        (.seq (.reg [⟨(some 70), .mv (T 6), none⟩,
          ⟨(some 71), .call false n_bits_RotateLeft32 [(T 70), (C (5))], none⟩,
          ⟨(some 72), .mv (T 12), none⟩,
          ⟨(some 73), .bin .add (T 71) (T 72), none⟩,
          ⟨(some 74), .mv (T 10), none⟩,
          ⟨(some 75), .bin .add (T 73) (T 74), none⟩,
          ⟨(some 76), .mv (T 13), none⟩,
          ⟨(some 77), .bin .add (T 75) (T 76), none⟩,
          ⟨(some 78), .mv (T 11), none⟩,
          ⟨(some 79), .iaddrA 80 none (T 4) (T 78), none⟩,
          ⟨(some 80), .load none (T 79), none⟩,
          ⟨(some 81), .bin .add (T 77) (T 80), none⟩,
          ⟨(some 14), .mv (T 81), none⟩])
        (.reg [⟨(some 82), .mv (T 14), none⟩,
          ⟨(some 83), .mv (T 6), none⟩,
          ⟨(some 84), .mv (T 7), none⟩,
          ⟨(some 85), .call true n_bits_RotateLeft32 [(T 84), (C (30))], none⟩,
          ⟨(some 86), .mv (T 8), none⟩,
          ⟨(some 87), .mv (T 9), none⟩,
          ⟨(some 6), .mv (T 82), none⟩,
          ⟨(some 7), .mv (T 83), none⟩,
          ⟨(some 8), .mv (T 85), none⟩,
          ⟨(some 9), .mv (T 86), none⟩,
          ⟨(some 10), .mv (T 87), none⟩])))))
      (.reg [⟨(some 88), .bin .add (T 59) (C (1)), none⟩,
        ⟨(some 59), .mv (T 88), none⟩])))))))
  (.reg [⟨(some 89), .mv (T 0), none⟩,
    ⟨(some 90), .mv (T 6), none⟩,
    ⟨(some 91), .mv (T 7), none⟩,
    ⟨(some 92), .mv (T 8), none⟩,
    ⟨(some 93), .mv (T 9), none⟩,
    ⟨(some 94), .mv (T 10), none⟩,
    ⟨(some 95), .bsl none [(T 90), (T 91), (T 92), (T 93), (T 94)], none⟩,
    ⟨(some 96), .call true n_digest_add [(T 89), (T 95)], none⟩]))))))
theorem e_digest_takeSha1 : slimC Tryd.prog 97 (Tryd.f33.body.getD .skip) = s_digest_takeSha1 := by kernel_rfl
theorem r_digest_takeSha1 : slimRes Tryd.prog Tryd.f33 = some [] := by kernel_rfl

/-- The slim code of drayage/digest.takeSha256. -/
def s_digest_takeSha256 : SCode :=
  (.seq (.reg [⟨(some 4), .alloc (List.replicate 64 (.int .u32 (0))), none⟩])
  (.seq (.reg [⟨(some 19), .sla 64 none (T 4) none none, none⟩,
    ⟨(some 20), .mv (T 1), none⟩,
    ⟨(some 21), .call true n_digest_putWords [(T 19), (T 20)], none⟩])
  (.seq (.seq (.reg [⟨(some 5), .mv (C (16)), none⟩])
  (.block 0
    (.loop
      (.seq (.seq (.reg [⟨(some 22), .mv (T 5), none⟩,
        ⟨(some 23), .bin .lss (T 22) (C (64)), none⟩])
      (.cond (T 23)
        .skip
        (.exit 0)))
      (.seq (.block 1
        (.seq (.reg [⟨(some 26), .mv (T 5), none⟩,
          ⟨(some 27), .bin .sub (T 26) (C (15)), none⟩,
          ⟨(some 28), .iaddrA 64 none (T 4) (T 27), none⟩,
          ⟨(some 29), .load none (T 28), none⟩,
          ⟨(some 30), .call false n_digest_right [(T 29), (C (7))], none⟩,
          ⟨(some 31), .mv (T 5), none⟩,
          ⟨(some 32), .bin .sub (T 31) (C (15)), none⟩,
          ⟨(some 33), .iaddrA 64 none (T 4) (T 32), none⟩,
          ⟨(some 34), .load none (T 33), none⟩,
          ⟨(some 35), .call false n_digest_right [(T 34), (C (18))], none⟩,
          ⟨(some 36), .bin .xor (T 30) (T 35), none⟩,
          ⟨(some 37), .mv (T 5), none⟩,
          ⟨(some 38), .bin .sub (T 37) (C (15)), none⟩,
          ⟨(some 39), .iaddrA 64 none (T 4) (T 38), none⟩,
          ⟨(some 40), .load none (T 39), none⟩,
          ⟨(some 41), .bin .shr (T 40) (.const (.int .u64 (3))), none⟩,
          ⟨(some 42), .bin .xor (T 36) (T 41), none⟩,
          ⟨(some 6), .mv (T 42), none⟩])
        (.seq (.reg [⟨(some 43), .mv (T 5), none⟩,
          ⟨(some 44), .bin .sub (T 43) (C (2)), none⟩,
          ⟨(some 45), .iaddrA 64 none (T 4) (T 44), none⟩,
          ⟨(some 46), .load none (T 45), none⟩,
          ⟨(some 47), .call false n_digest_right [(T 46), (C (17))], none⟩,
          ⟨(some 48), .mv (T 5), none⟩,
          ⟨(some 49), .bin .sub (T 48) (C (2)), none⟩,
          ⟨(some 50), .iaddrA 64 none (T 4) (T 49), none⟩,
          ⟨(some 51), .load none (T 50), none⟩,
          ⟨(some 52), .call false n_digest_right [(T 51), (C (19))], none⟩,
          ⟨(some 53), .bin .xor (T 47) (T 52), none⟩,
          ⟨(some 54), .mv (T 5), none⟩,
          ⟨(some 55), .bin .sub (T 54) (C (2)), none⟩,
          ⟨(some 56), .iaddrA 64 none (T 4) (T 55), none⟩,
          ⟨(some 57), .load none (T 56), none⟩,
          ⟨(some 58), .bin .shr (T 57) (.const (.int .u64 (10))), none⟩,
          ⟨(some 59), .bin .xor (T 53) (T 58), none⟩,
          ⟨(some 7), .mv (T 59), none⟩])
        (.reg [⟨(some 60), .mv (T 5), none⟩,
          ⟨(some 61), .mv (T 5), none⟩,
          ⟨(some 62), .bin .sub (T 61) (C (16)), none⟩,
          ⟨(some 63), .iaddrA 64 none (T 4) (T 62), none⟩,
          ⟨(some 64), .load none (T 63), none⟩,
          ⟨(some 65), .mv (T 6), none⟩,
          ⟨(some 66), .bin .add (T 64) (T 65), none⟩,
          ⟨(some 67), .mv (T 5), none⟩,
          ⟨(some 68), .bin .sub (T 67) (C (7)), none⟩,
          ⟨(some 69), .iaddrA 64 none (T 4) (T 68), none⟩,
          ⟨(some 70), .load none (T 69), none⟩,
          ⟨(some 71), .bin .add (T 66) (T 70), none⟩,
          ⟨(some 72), .mv (T 7), none⟩,
          ⟨(some 73), .bin .add (T 71) (T 72), none⟩,
          ⟨(some 74), .iaddrA 64 none (T 4) (T 60), none⟩,
          ⟨none, .store none (T 74) (T 73), none⟩]))))
      (.reg [⟨(some 24), .mv (T 5), none⟩,
        ⟨(some 25), .bin .add (T 24) (C (1)), none⟩,
        ⟨(some 5), .mv (T 25), none⟩]))))))
  (.seq (.reg [⟨(some 75), .mv (T 0), none⟩,
    ⟨(some 76), .iaddr none (T 75) (C (0)), none⟩,
    ⟨(some 77), .load none (T 76), none⟩,
    ⟨(some 78), .mv (T 0), none⟩,
    ⟨(some 79), .iaddr none (T 78) (C (1)), none⟩,
    ⟨(some 80), .load none (T 79), none⟩,
    ⟨(some 81), .mv (T 0), none⟩,
    ⟨(some 82), .iaddr none (T 81) (C (2)), none⟩,
    ⟨(some 83), .load none (T 82), none⟩,
    ⟨(some 84), .mv (T 0), none⟩,
    ⟨(some 85), .iaddr none (T 84) (C (3)), none⟩,
    ⟨(some 86), .load none (T 85), none⟩,
    ⟨(some 8), .mv (T 77), none⟩,
    ⟨(some 9), .mv (T 80), none⟩,
    ⟨(some 10), .mv (T 83), none⟩,
    ⟨(some 11), .mv (T 86), none⟩])
  (.seq (.reg [⟨(some 87), .mv (T 0), none⟩,
    ⟨(some 88), .iaddr none (T 87) (C (4)), none⟩,
    ⟨(some 89), .load none (T 88), none⟩,
    ⟨(some 90), .mv (T 0), none⟩,
    ⟨(some 91), .iaddr none (T 90) (C (5)), none⟩,
    ⟨(some 92), .load none (T 91), none⟩,
    ⟨(some 93), .mv (T 0), none⟩,
    ⟨(some 94), .iaddr none (T 93) (C (6)), none⟩,
    ⟨(some 95), .load none (T 94), none⟩,
    ⟨(some 96), .mv (T 0), none⟩,
    ⟨(some 97), .iaddr none (T 96) (C (7)), none⟩,
    ⟨(some 98), .load none (T 97), none⟩,
    ⟨(some 12), .mv (T 89), none⟩,
    ⟨(some 13), .mv (T 92), none⟩,
    ⟨(some 14), .mv (T 95), none⟩,
    ⟨(some 15), .mv (T 98), none⟩])
  (.seq (.seq (.reg [⟨(some 99), .mv (C (0)), none⟩])
  (.block 2
    (.loop
      (.seq (.reg [⟨(some 100), .bin .lss (T 99) (C (64)), none⟩])
      (.seq (.cond (T 100)
        .skip
        (.exit 2))
      (.seq (.block 3
        (.seq (.reg [⟨(some 101), .mv (T 99), none⟩,
          ⟨(some 16), .mv (T 101), none⟩])
        (.seq (.reg [⟨(some 102), .mv (T 15), none⟩,
          ⟨(some 103), .mv (T 12), none⟩,
          ⟨(some 104), .call false n_digest_right [(T 103), (C (6))], none⟩,
          ⟨(some 105), .mv (T 12), none⟩,
          ⟨(some 106), .call false n_digest_right [(T 105), (C (11))], none⟩,
          ⟨(some 107), .bin .xor (T 104) (T 106), none⟩,
          ⟨(some 108), .mv (T 12), none⟩,
          ⟨(some 109), .call false n_digest_right [(T 108), (C (25))], none⟩,
          ⟨(some 110), .bin .xor (T 107) (T 109), none⟩,
          ⟨(some 111), .bin .add (T 102) (T 110), none⟩,
          ⟨(some 112), .mv (T 12), none⟩,
          ⟨(some 113), .mv (T 13), none⟩,
          ⟨(some 114), .bin .and (T 112) (T 113), none⟩,
          ⟨(some 115), .mv (T 12), none⟩,
          ⟨(some 116), .un .xor (T 115), none⟩,
          ⟨(some 117), .mv (T 14), none⟩,
          ⟨(some 118), .bin .and (T 116) (T 117), none⟩,
          ⟨(some 119), .bin .xor (T 114) (T 118), none⟩,
          ⟨(some 120), .bin .add (T 111) (T 119), none⟩,
          ⟨(some 121), .mv (T 16), none⟩,
          ⟨(some 122), .iaddrA 64 none (.global 1) (T 121), none⟩,
          ⟨(some 123), .load none (T 122), none⟩,
          ⟨(some 124), .bin .add (T 120) (T 123), none⟩,
          ⟨(some 125), .mv (T 16), none⟩,
          ⟨(some 126), .iaddrA 64 none (T 4) (T 125), none⟩,
          ⟨(some 127), .load none (T 126), none⟩,
          ⟨(some 128), .bin .add (T 124) (T 127), none⟩,
          ⟨(some 17), .mv (T 128), none⟩])
        (.seq (.reg [⟨(some 129), .mv (T 8), none⟩,
          ⟨(some 130), .call true n_digest_right [(T 129), (C (2))], none⟩,
          ⟨(some 131), .mv (T 8), none⟩,
          ⟨(some 132), .call true n_digest_right [(T 131), (C (13))], none⟩,
          ⟨(some 133), .bin .xor (T 130) (T 132), none⟩,
          ⟨(some 134), .mv (T 8), none⟩,
          ⟨(some 135), .call true n_digest_right [(T 134), (C (22))], none⟩,
          ⟨(some 136), .bin .xor (T 133) (T 135), none⟩,
          ⟨(some 137), .mv (T 8), none⟩,
          ⟨(some 138), .mv (T 9), none⟩,
          ⟨(some 139), .bin .and (T 137) (T 138), none⟩,
          ⟨(some 140), .mv (T 8), none⟩,
          ⟨(some 141), .mv (T 10), none⟩,
          ⟨(some 142), .bin .and (T 140) (T 141), none⟩,
          ⟨(some 143), .bin .xor (T 139) (T 142), none⟩,
          ⟨(some 144), .mv (T 9), none⟩,
          ⟨(some 145), .mv (T 10), none⟩,
          ⟨(some 146), .bin .and (T 144) (T 145), none⟩,
          ⟨(some 147), .bin .xor (T 143) (T 146), none⟩,
          ⟨(some 148), .bin .add (T 136) (T 147), none⟩,
          ⟨(some 18), .mv (T 148), none⟩])
        (.reg [⟨(some 149), .mv (T 17), none⟩,
          ⟨(some 150), .mv (T 18), none⟩,
          ⟨(some 151), .bin .add (T 149) (T 150), none⟩,
          ⟨(some 152), .mv (T 8), none⟩,
          ⟨(some 153), .mv (T 9), none⟩,
          ⟨(some 154), .mv (T 10), none⟩,
          ⟨(some 155), .mv (T 11), none⟩,
          ⟨(some 156), .mv (T 17), none⟩,
          ⟨(some 157), .bin .add (T 155) (T 156), none⟩,
          ⟨(some 158), .mv (T 12), none⟩,
          ⟨(some 159), .mv (T 13), none⟩,
          ⟨(some 160), .mv (T 14), none⟩,
          ⟨(some 8), .mv (T 151), none⟩,
          ⟨(some 9), .mv (T 152), none⟩,
          ⟨(some 10), .mv (T 153), none⟩,
          ⟨(some 11), .mv (T 154), none⟩,
          ⟨(some 12), .mv (T 157), none⟩,
          ⟨(some 13), .mv (T 158), none⟩,
          ⟨(some 14), .mv (T 159), none⟩,
          ⟨(some 15), .mv (T 160), none⟩])))))
      (.reg [⟨(some 161), .bin .add (T 99) (C (1)), none⟩,
        ⟨(some 99), .mv (T 161), none⟩])))))))
  (.reg [⟨(some 162), .mv (T 0), none⟩,
    ⟨(some 163), .mv (T 8), none⟩,
    ⟨(some 164), .mv (T 9), none⟩,
    ⟨(some 165), .mv (T 10), none⟩,
    ⟨(some 166), .mv (T 11), none⟩,
    ⟨(some 167), .mv (T 12), none⟩,
    ⟨(some 168), .mv (T 13), none⟩,
    ⟨(some 169), .mv (T 14), none⟩,
    ⟨(some 170), .mv (T 15), none⟩,
    ⟨(some 171), .bsl none [(T 163), (T 164), (T 165), (T 166), (T 167), (T 168), (T 169), (T 170)], none⟩,
    ⟨(some 172), .call true n_digest_add [(T 162), (T 171)], none⟩])))))))
theorem e_digest_takeSha256 : slimC Tryd.prog 173 (Tryd.f34.body.getD .skip) = s_digest_takeSha256 := by kernel_rfl
theorem r_digest_takeSha256 : slimRes Tryd.prog Tryd.f34 = some [] := by kernel_rfl

/-- The slim code of drayage/codec.Le. -/
def s_codec_Le : SCode :=
  (.seq (.reg [⟨(some 4), .mv (.const (.slice none 0 0)), none⟩])
  (.seq (.seq (.reg [⟨(some 7), .mv (T 1), none⟩,
    ⟨(some 8), .bin .lss (T 7) (C (1)), none⟩,
    ⟨(some 9), .mv (T 8), none⟩,
    ⟨(some 10), .mv (T 1), (some (9, false))⟩,
    ⟨(some 11), .bin .gtr (T 10) (C (8)), (some (9, false))⟩,
    ⟨(some 12), .pick (T 9) (.const (.bool true)) (T 11), none⟩])
  (.cond (T 12)
    (.seq (.reg [⟨(some 4), .mv (.const (.slice none 0 0)), none⟩])
    .ret)
    .skip))
  (.seq (.reg [⟨(some 13), .mv (T 1), none⟩,
    ⟨(some 14), .mks none 1 [(.int .u8 (0))] (T 13) (T 13), none⟩,
    ⟨(some 5), .mv (T 14), none⟩])
  (.seq (.seq (.reg [⟨(some 15), .mv (T 1), none⟩,
    ⟨(some 16), .mv (C (0)), none⟩])
  (.block 0
    (.loop
      (.seq (.reg [⟨(some 17), .bin .lss (T 16) (T 15), none⟩])
      (.seq (.cond (T 17)
        .skip
        (.exit 0))
      (.seq (.block 1
        (.seq (.reg [⟨(some 18), .mv (T 16), none⟩,
          ⟨(some 6), .mv (T 18), none⟩])
        (.reg [⟨(some 19), .mv (T 5), none⟩,
          ⟨(some 20), .mv (T 6), none⟩,
          ⟨(some 21), .mv (T 0), none⟩,
          ⟨(some 22), .mv (T 6), none⟩,
          ⟨(some 23), .bin .mul (C (8)) (T 22), none⟩,
          ⟨(some 24), .bin .shr (T 21) (T 23), none⟩,
          ⟨(some 25), .ci .u8 (T 24), none⟩,
          ⟨(some 26), .iaddr none (T 19) (T 20), none⟩,
          ⟨none, .store none (T 26) (T 25), none⟩])))
      (.reg [⟨(some 27), .bin .add (T 16) (C (1)), none⟩,
        ⟨(some 16), .mv (T 27), none⟩])))))))
  (.seq (.reg [⟨(some 28), .mv (T 5), none⟩,
    ⟨(some 4), .mv (T 28), none⟩])
  .ret)))))
theorem e_codec_Le : slimC Tryd.prog 29 (Tryd.f35.body.getD .skip) = s_codec_Le := by kernel_rfl
theorem r_codec_Le : slimRes Tryd.prog Tryd.f35 = some [.tmp 4] := by kernel_rfl

/-- The slim code of drayage/codec.Be. -/
def s_codec_Be : SCode :=
  (.seq (.reg [⟨(some 4), .mv (.const (.slice none 0 0)), none⟩])
  (.seq (.reg [⟨(some 6), .mv (T 0), none⟩,
    ⟨(some 7), .mv (T 1), none⟩,
    ⟨(some 8), .call true n_codec_Le [(T 6), (T 7)], none⟩,
    ⟨(some 5), .mv (T 8), none⟩])
  (.seq (.reg [⟨(some 9), .mv (T 5), none⟩,
    ⟨(some 10), .call true n_slices_Reversebytebyte [(T 9)], none⟩])
  (.seq (.reg [⟨(some 11), .mv (T 5), none⟩,
    ⟨(some 4), .mv (T 11), none⟩])
  .ret))))
theorem e_codec_Be : slimC Tryd.prog 12 (Tryd.f36.body.getD .skip) = s_codec_Be := by kernel_rfl
theorem r_codec_Be : slimRes Tryd.prog Tryd.f36 = some [.tmp 4] := by kernel_rfl

/-- The slim code of drayage/codec.GetLe. -/
def s_codec_GetLe : SCode :=
  (.seq (.reg [⟨(some 6), .mv (.const (.int .u64 (0))), none⟩,
    ⟨(some 7), .mv (.const (.bool false)), none⟩])
  (.seq (.seq (.reg [⟨(some 10), .mv (T 0), none⟩,
    ⟨(some 11), .mv (T 1), none⟩,
    ⟨(some 12), .mv (T 2), none⟩,
    ⟨(some 13), .call true n_codec_stands [(T 10), (T 11), (T 12)], none⟩,
    ⟨(some 14), .un .not (T 13), none⟩])
  (.cond (T 14)
    (.seq (.reg [⟨(some 6), .mv (.const (.int .u64 (0))), none⟩,
      ⟨(some 7), .mv (.const (.bool false)), none⟩])
    .ret)
    .skip))
  (.seq (.reg [⟨(some 8), .mv (.const (.int .u64 (0))), none⟩])
  (.seq (.seq (.reg [⟨(some 15), .mv (T 2), none⟩,
    ⟨(some 16), .mv (C (0)), none⟩])
  (.block 0
    (.loop
      (.seq (.reg [⟨(some 17), .bin .lss (T 16) (T 15), none⟩])
      (.seq (.cond (T 17)
        .skip
        (.exit 0))
      (.seq (.block 1
        (.seq (.reg [⟨(some 18), .mv (T 16), none⟩,
          ⟨(some 9), .mv (T 18), none⟩])
        (.reg [⟨(some 19), .mv (T 8), none⟩,
          ⟨(some 20), .mv (T 0), none⟩,
          ⟨(some 21), .mv (T 1), none⟩,
          ⟨(some 22), .mv (T 9), none⟩,
          ⟨(some 23), .bin .add (T 21) (T 22), none⟩,
          ⟨(some 24), .iaddr none (T 20) (T 23), none⟩,
          ⟨(some 25), .load none (T 24), none⟩,
          ⟨(some 26), .ci .u64 (T 25), none⟩,
          ⟨(some 27), .mv (T 9), none⟩,
          ⟨(some 28), .bin .mul (C (8)) (T 27), none⟩,
          ⟨(some 29), .bin .shl (T 26) (T 28), none⟩,
          ⟨(some 30), .bin .or (T 19) (T 29), none⟩,
          ⟨(some 8), .mv (T 30), none⟩])))
      (.reg [⟨(some 31), .bin .add (T 16) (C (1)), none⟩,
        ⟨(some 16), .mv (T 31), none⟩])))))))
  (.seq (.reg [⟨(some 32), .mv (T 8), none⟩,
    ⟨(some 6), .mv (T 32), none⟩,
    ⟨(some 7), .mv (.const (.bool true)), none⟩])
  .ret)))))
theorem e_codec_GetLe : slimC Tryd.prog 33 (Tryd.f37.body.getD .skip) = s_codec_GetLe := by kernel_rfl
theorem r_codec_GetLe : slimRes Tryd.prog Tryd.f37 = some [.tmp 6, .tmp 7] := by kernel_rfl

/-- The slim code of drayage/digest.md5Mix. -/
def s_digest_md5Mix : SCode :=
  (.seq (.reg [⟨(some 8), .mv (.const (.int .u32 (0))), none⟩,
    ⟨(some 9), .mv (C (0)), none⟩])
  (.seq (.seq (.reg [⟨(some 10), .mv (T 0), none⟩,
    ⟨(some 11), .bin .quo (T 10) (C (16)), none⟩])
  (.block 0
    (.seq (.reg [⟨(some 13), .bin .eql (T 11) (C (0)), none⟩,
      ⟨(some 12), .mv (T 13), none⟩])
    (.cond (T 12)
      (.seq (.reg [⟨(some 14), .mv (T 1), none⟩,
        ⟨(some 15), .mv (T 2), none⟩,
        ⟨(some 16), .bin .and (T 14) (T 15), none⟩,
        ⟨(some 17), .mv (T 1), none⟩,
        ⟨(some 18), .un .xor (T 17), none⟩,
        ⟨(some 19), .mv (T 3), none⟩,
        ⟨(some 20), .bin .and (T 18) (T 19), none⟩,
        ⟨(some 21), .bin .or (T 16) (T 20), none⟩,
        ⟨(some 22), .mv (T 0), none⟩,
        ⟨(some 8), .mv (T 21), none⟩,
        ⟨(some 9), .mv (T 22), none⟩])
      .ret)
      (.seq (.reg [⟨(some 24), .bin .eql (T 11) (C (1)), none⟩,
        ⟨(some 23), .mv (T 24), none⟩])
      (.cond (T 23)
        (.seq (.reg [⟨(some 25), .mv (T 3), none⟩,
          ⟨(some 26), .mv (T 1), none⟩,
          ⟨(some 27), .bin .and (T 25) (T 26), none⟩,
          ⟨(some 28), .mv (T 3), none⟩,
          ⟨(some 29), .un .xor (T 28), none⟩,
          ⟨(some 30), .mv (T 2), none⟩,
          ⟨(some 31), .bin .and (T 29) (T 30), none⟩,
          ⟨(some 32), .bin .or (T 27) (T 31), none⟩,
          ⟨(some 33), .mv (T 0), none⟩,
          ⟨(some 34), .bin .mul (C (5)) (T 33), none⟩,
          ⟨(some 35), .bin .add (T 34) (C (1)), none⟩,
          ⟨(some 36), .bin .rem (T 35) (C (16)), none⟩,
          ⟨(some 8), .mv (T 32), none⟩,
          ⟨(some 9), .mv (T 36), none⟩])
        .ret)
        (.seq (.reg [⟨(some 38), .bin .eql (T 11) (C (2)), none⟩,
          ⟨(some 37), .mv (T 38), none⟩])
        (.cond (T 37)
          (.seq (.reg [⟨(some 39), .mv (T 1), none⟩,
            ⟨(some 40), .mv (T 2), none⟩,
            ⟨(some 41), .bin .xor (T 39) (T 40), none⟩,
            ⟨(some 42), .mv (T 3), none⟩,
            ⟨(some 43), .bin .xor (T 41) (T 42), none⟩,
            ⟨(some 44), .mv (T 0), none⟩,
            ⟨(some 45), .bin .mul (C (3)) (T 44), none⟩,
            ⟨(some 46), .bin .add (T 45) (C (5)), none⟩,
            ⟨(some 47), .bin .rem (T 46) (C (16)), none⟩,
            ⟨(some 8), .mv (T 43), none⟩,
            ⟨(some 9), .mv (T 47), none⟩])
          .ret)
          .skip))))))))
  (.seq (.reg [⟨(some 48), .mv (T 2), none⟩,
    ⟨(some 49), .mv (T 1), none⟩,
    ⟨(some 50), .mv (T 3), none⟩,
    ⟨(some 51), .un .xor (T 50), none⟩,
    ⟨(some 52), .bin .or (T 49) (T 51), none⟩,
    ⟨(some 53), .bin .xor (T 48) (T 52), none⟩,
    ⟨(some 54), .mv (T 0), none⟩,
    ⟨(some 55), .bin .mul (C (7)) (T 54), none⟩,
    ⟨(some 56), .bin .rem (T 55) (C (16)), none⟩,
    ⟨(some 8), .mv (T 53), none⟩,
    ⟨(some 9), .mv (T 56), none⟩])
  .ret)))
theorem e_digest_md5Mix : slimC Tryd.prog 57 (Tryd.f38.body.getD .skip) = s_digest_md5Mix := by kernel_rfl
theorem r_digest_md5Mix : slimRes Tryd.prog Tryd.f38 = some [.tmp 8, .tmp 9] := by kernel_rfl

/-- The slim code of math/bits.RotateLeft32. -/
def s_bits_RotateLeft32 : SCode :=
  (.seq (.reg [⟨(some 4), .mv (.const (.int .u32 (0))), none⟩])
  (.seq (.reg [⟨(some 6), .mv (T 1), none⟩,
    ⟨(some 7), .ci .u64 (T 6), none⟩,
    ⟨(some 8), .bin .and (T 7) (.const (.int .u64 (31))), none⟩,
    ⟨(some 5), .mv (T 8), none⟩])
  (.seq (.reg [⟨(some 9), .mv (T 0), none⟩,
    ⟨(some 10), .mv (T 5), none⟩,
    ⟨(some 11), .bin .shl (T 9) (T 10), none⟩,
    ⟨(some 12), .mv (T 0), none⟩,
    ⟨(some 13), .mv (T 5), none⟩,
    ⟨(some 14), .bin .sub (.const (.int .u64 (32))) (T 13), none⟩,
    ⟨(some 15), .bin .shr (T 12) (T 14), none⟩,
    ⟨(some 16), .bin .or (T 11) (T 15), none⟩,
    ⟨(some 4), .mv (T 16), none⟩])
  .ret)))
theorem e_bits_RotateLeft32 : slimC Tryd.prog 17 (Tryd.f39.body.getD .skip) = s_bits_RotateLeft32 := by kernel_rfl
theorem r_bits_RotateLeft32 : slimRes Tryd.prog Tryd.f39 = some [.tmp 4] := by kernel_rfl

/-- The slim code of drayage/digest.add. -/
def s_digest_add : SCode :=
  (.seq (.reg [⟨(some 6), .mv (T 1), none⟩,
    ⟨(some 7), .len false (T 6), none⟩,
    ⟨(some 8), .mv (C (0)), none⟩])
  (.block 0
    (.loop
      (.seq (.reg [⟨(some 9), .bin .lss (T 8) (T 7), none⟩])
      (.seq (.cond (T 9)
        .skip
        (.exit 0))
      (.seq (.block 1
        (.seq (.reg [⟨(some 10), .mv (T 8), none⟩,
          ⟨(some 11), .iaddr none (T 6) (T 8), none⟩,
          ⟨(some 12), .load none (T 11), none⟩,
          ⟨(some 4), .mv (T 10), none⟩,
          ⟨(some 5), .mv (T 12), none⟩])
        (.reg [⟨(some 13), .mv (T 0), none⟩,
          ⟨(some 14), .mv (T 4), none⟩,
          ⟨(some 15), .iaddr none (T 13) (T 14), none⟩,
          ⟨(some 16), .load none (T 15), none⟩,
          ⟨(some 17), .mv (T 5), none⟩,
          ⟨(some 18), .bin .add (T 16) (T 17), none⟩,
          ⟨(some 19), .iaddr none (T 13) (T 14), none⟩,
          ⟨none, .store none (T 19) (T 18), none⟩])))
      (.reg [⟨(some 20), .bin .add (T 8) (C (1)), none⟩,
        ⟨(some 8), .mv (T 20), none⟩])))))))
theorem e_digest_add : slimC Tryd.prog 21 (Tryd.f40.body.getD .skip) = s_digest_add := by kernel_rfl
theorem r_digest_add : slimRes Tryd.prog Tryd.f40 = some [] := by kernel_rfl

/-- The slim code of drayage/digest.putWords. -/
def s_digest_putWords : SCode :=
  (.seq (.reg [⟨(some 7), .mv (C (0)), none⟩])
  (.block 0
    (.loop
      (.seq (.reg [⟨(some 8), .bin .lss (T 7) (C (16)), none⟩])
      (.seq (.cond (T 8)
        .skip
        (.exit 0))
      (.seq (.block 1
        (.seq (.reg [⟨(some 9), .mv (T 7), none⟩,
          ⟨(some 4), .mv (T 9), none⟩])
        (.seq (.reg [⟨(some 11), .mv (T 1), none⟩,
          ⟨(some 12), .mv (T 4), none⟩,
          ⟨(some 13), .bin .mul (T 12) (C (4)), none⟩,
          ⟨(some 14), .call true n_codec_GetBe [(T 11), (T 13), (C (4))], none⟩,
          ⟨(some 10), .mv (T 14), none⟩,
          ⟨(some 15), .ext (T 10) 0, none⟩,
          ⟨(some 16), .ext (T 10) 1, none⟩,
          ⟨(some 5), .mv (T 15), none⟩,
          ⟨(some 6), .mv (T 16), none⟩])
        (.reg [⟨(some 17), .mv (T 0), none⟩,
          ⟨(some 18), .mv (T 4), none⟩,
          ⟨(some 19), .mv (T 5), none⟩,
          ⟨(some 20), .ci .u32 (T 19), none⟩,
          ⟨(some 21), .iaddr none (T 17) (T 18), none⟩,
          ⟨none, .store none (T 21) (T 20), none⟩]))))
      (.reg [⟨(some 22), .bin .add (T 7) (C (1)), none⟩,
        ⟨(some 7), .mv (T 22), none⟩])))))))
theorem e_digest_putWords : slimC Tryd.prog 23 (Tryd.f41.body.getD .skip) = s_digest_putWords := by kernel_rfl
theorem r_digest_putWords : slimRes Tryd.prog Tryd.f41 = some [] := by kernel_rfl

/-- The slim code of drayage/digest.sha1Mix. -/
def s_digest_sha1Mix : SCode :=
  (.seq (.reg [⟨(some 8), .mv (.const (.int .u32 (0))), none⟩,
    ⟨(some 9), .mv (.const (.int .u32 (0))), none⟩])
  (.seq (.seq (.reg [⟨(some 10), .mv (T 0), none⟩,
    ⟨(some 11), .bin .quo (T 10) (C (20)), none⟩])
  (.block 0
    (.seq (.reg [⟨(some 13), .bin .eql (T 11) (C (0)), none⟩,
      ⟨(some 12), .mv (T 13), none⟩])
    (.cond (T 12)
      (.seq (.reg [⟨(some 14), .mv (T 1), none⟩,
        ⟨(some 15), .mv (T 2), none⟩,
        ⟨(some 16), .bin .and (T 14) (T 15), none⟩,
        ⟨(some 17), .mv (T 1), none⟩,
        ⟨(some 18), .un .xor (T 17), none⟩,
        ⟨(some 19), .mv (T 3), none⟩,
        ⟨(some 20), .bin .and (T 18) (T 19), none⟩,
        ⟨(some 21), .bin .or (T 16) (T 20), none⟩,
        ⟨(some 8), .mv (T 21), none⟩,
        ⟨(some 9), .mv (.const (.int .u32 (1518500249))), none⟩])
      .ret)
      (.seq (.reg [⟨(some 23), .bin .eql (T 11) (C (1)), none⟩,
        ⟨(some 22), .mv (T 23), none⟩])
      (.cond (T 22)
        (.seq (.reg [⟨(some 24), .mv (T 1), none⟩,
          ⟨(some 25), .mv (T 2), none⟩,
          ⟨(some 26), .bin .xor (T 24) (T 25), none⟩,
          ⟨(some 27), .mv (T 3), none⟩,
          ⟨(some 28), .bin .xor (T 26) (T 27), none⟩,
          ⟨(some 8), .mv (T 28), none⟩,
          ⟨(some 9), .mv (.const (.int .u32 (1859775393))), none⟩])
        .ret)
        (.seq (.reg [⟨(some 30), .bin .eql (T 11) (C (2)), none⟩,
          ⟨(some 29), .mv (T 30), none⟩])
        (.cond (T 29)
          (.seq (.reg [⟨(some 31), .mv (T 1), none⟩,
            ⟨(some 32), .mv (T 2), none⟩,
            ⟨(some 33), .bin .and (T 31) (T 32), none⟩,
            ⟨(some 34), .mv (T 1), none⟩,
            ⟨(some 35), .mv (T 3), none⟩,
            ⟨(some 36), .bin .and (T 34) (T 35), none⟩,
            ⟨(some 37), .bin .or (T 33) (T 36), none⟩,
            ⟨(some 38), .mv (T 2), none⟩,
            ⟨(some 39), .mv (T 3), none⟩,
            ⟨(some 40), .bin .and (T 38) (T 39), none⟩,
            ⟨(some 41), .bin .or (T 37) (T 40), none⟩,
            ⟨(some 8), .mv (T 41), none⟩,
            ⟨(some 9), .mv (.const (.int .u32 (2400959708))), none⟩])
          .ret)
          .skip))))))))
  (.seq (.reg [⟨(some 42), .mv (T 1), none⟩,
    ⟨(some 43), .mv (T 2), none⟩,
    ⟨(some 44), .bin .xor (T 42) (T 43), none⟩,
    ⟨(some 45), .mv (T 3), none⟩,
    ⟨(some 46), .bin .xor (T 44) (T 45), none⟩,
    ⟨(some 8), .mv (T 46), none⟩,
    ⟨(some 9), .mv (.const (.int .u32 (3395469782))), none⟩])
  .ret)))
theorem e_digest_sha1Mix : slimC Tryd.prog 47 (Tryd.f42.body.getD .skip) = s_digest_sha1Mix := by kernel_rfl
theorem r_digest_sha1Mix : slimRes Tryd.prog Tryd.f42 = some [.tmp 8, .tmp 9] := by kernel_rfl

/-- The slim code of drayage/digest.right. -/
def s_digest_right : SCode :=
  (.seq (.reg [⟨(some 4), .mv (.const (.int .u32 (0))), none⟩])
  (.seq (.reg [⟨(some 5), .mv (T 0), none⟩,
    ⟨(some 6), .mv (T 1), none⟩,
    ⟨(some 7), .un .neg (T 6), none⟩,
    ⟨(some 8), .call true n_bits_RotateLeft32 [(T 5), (T 7)], none⟩,
    ⟨(some 4), .mv (T 8), none⟩])
  .ret))
theorem e_digest_right : slimC Tryd.prog 9 (Tryd.f43.body.getD .skip) = s_digest_right := by kernel_rfl
theorem r_digest_right : slimRes Tryd.prog Tryd.f43 = some [.tmp 4] := by kernel_rfl

/-- The slim code of slices.Reverse[[]byte,byte]. -/
def s_slices_Reversebytebyte : SCode :=
  (.seq (.reg [⟨(some 4), .mv (T 0), none⟩,
    ⟨(some 5), .len false (T 4), none⟩,
    ⟨(some 6), .bin .sub (T 5) (C (1)), none⟩,
    ⟨(some 2), .mv (C (0)), none⟩,
    ⟨(some 3), .mv (T 6), none⟩])
  (.block 0
    (.loop
      (.seq (.seq (.reg [⟨(some 7), .mv (T 2), none⟩,
        ⟨(some 8), .mv (T 3), none⟩,
        ⟨(some 9), .bin .lss (T 7) (T 8), none⟩])
      (.cond (T 9)
        .skip
        (.exit 0)))
      (.seq (.block 1
        (.reg [⟨(some 14), .mv (T 0), none⟩,
          ⟨(some 15), .mv (T 2), none⟩,
          ⟨(some 16), .mv (T 0), none⟩,
          ⟨(some 17), .mv (T 3), none⟩,
          ⟨(some 18), .mv (T 0), none⟩,
          ⟨(some 19), .mv (T 3), none⟩,
          ⟨(some 20), .iaddr none (T 18) (T 19), none⟩,
          ⟨(some 21), .load none (T 20), none⟩,
          ⟨(some 22), .mv (T 0), none⟩,
          ⟨(some 23), .mv (T 2), none⟩,
          ⟨(some 24), .iaddr none (T 22) (T 23), none⟩,
          ⟨(some 25), .load none (T 24), none⟩,
          ⟨(some 26), .iaddr none (T 14) (T 15), none⟩,
          ⟨none, .store none (T 26) (T 21), none⟩,
          ⟨(some 27), .iaddr none (T 16) (T 17), none⟩,
          ⟨none, .store none (T 27) (T 25), none⟩]))
      (.reg [⟨(some 10), .mv (T 2), none⟩,
        ⟨(some 11), .bin .add (T 10) (C (1)), none⟩,
        ⟨(some 12), .mv (T 3), none⟩,
        ⟨(some 13), .bin .sub (T 12) (C (1)), none⟩,
        ⟨(some 2), .mv (T 11), none⟩,
        ⟨(some 3), .mv (T 13), none⟩]))))))
theorem e_slices_Reversebytebyte : slimC Tryd.prog 28 (Tryd.f44.body.getD .skip) = s_slices_Reversebytebyte := by kernel_rfl
theorem r_slices_Reversebytebyte : slimRes Tryd.prog Tryd.f44 = some [] := by kernel_rfl

/-- The slim code of drayage/codec.stands. -/
def s_codec_stands : SCode :=
  (.seq (.reg [⟨(some 6), .mv (.const (.bool false)), none⟩])
  (.seq (.seq (.reg [⟨(some 7), .mv (T 2), none⟩,
    ⟨(some 8), .bin .lss (T 7) (C (1)), none⟩,
    ⟨(some 9), .mv (T 8), none⟩,
    ⟨(some 10), .mv (T 2), (some (9, false))⟩,
    ⟨(some 11), .bin .gtr (T 10) (C (8)), (some (9, false))⟩,
    ⟨(some 12), .pick (T 9) (.const (.bool true)) (T 11), none⟩,
    ⟨(some 13), .mv (T 12), none⟩,
    ⟨(some 14), .mv (T 1), (some (13, false))⟩,
    ⟨(some 15), .bin .lss (T 14) (C (0)), (some (13, false))⟩,
    ⟨(some 16), .pick (T 13) (.const (.bool true)) (T 15), none⟩])
  (.cond (T 16)
    (.seq (.reg [⟨(some 6), .mv (.const (.bool false)), none⟩])
    .ret)
    .skip))
  (.seq (.reg [⟨(some 17), .mv (T 1), none⟩,
    ⟨(some 18), .mv (T 0), none⟩,
    ⟨(some 19), .len false (T 18), none⟩,
    ⟨(some 20), .mv (T 2), none⟩,
    ⟨(some 21), .bin .sub (T 19) (T 20), none⟩,
    ⟨(some 22), .bin .leq (T 17) (T 21), none⟩,
    ⟨(some 6), .mv (T 22), none⟩])
  .ret)))
theorem e_codec_stands : slimC Tryd.prog 23 (Tryd.f45.body.getD .skip) = s_codec_stands := by kernel_rfl
theorem r_codec_stands : slimRes Tryd.prog Tryd.f45 = some [.tmp 6] := by kernel_rfl

/-- The slim code of drayage/codec.GetBe. -/
def s_codec_GetBe : SCode :=
  (.seq (.reg [⟨(some 6), .mv (.const (.int .u64 (0))), none⟩,
    ⟨(some 7), .mv (.const (.bool false)), none⟩])
  (.seq (.seq (.reg [⟨(some 10), .mv (T 0), none⟩,
    ⟨(some 11), .mv (T 1), none⟩,
    ⟨(some 12), .mv (T 2), none⟩,
    ⟨(some 13), .call true n_codec_stands [(T 10), (T 11), (T 12)], none⟩,
    ⟨(some 14), .un .not (T 13), none⟩])
  (.cond (T 14)
    (.seq (.reg [⟨(some 6), .mv (.const (.int .u64 (0))), none⟩,
      ⟨(some 7), .mv (.const (.bool false)), none⟩])
    .ret)
    .skip))
  (.seq (.reg [⟨(some 8), .mv (.const (.int .u64 (0))), none⟩])
  (.seq (.seq (.reg [⟨(some 15), .mv (T 2), none⟩,
    ⟨(some 16), .mv (C (0)), none⟩])
  (.block 0
    (.loop
      (.seq (.reg [⟨(some 17), .bin .lss (T 16) (T 15), none⟩])
      (.seq (.cond (T 17)
        .skip
        (.exit 0))
      (.seq (.block 1
        (.seq (.reg [⟨(some 18), .mv (T 16), none⟩,
          ⟨(some 9), .mv (T 18), none⟩])
        (.reg [⟨(some 19), .mv (T 8), none⟩,
          ⟨(some 20), .bin .shl (T 19) (.const (.int .u64 (8))), none⟩,
          ⟨(some 21), .mv (T 0), none⟩,
          ⟨(some 22), .mv (T 1), none⟩,
          ⟨(some 23), .mv (T 9), none⟩,
          ⟨(some 24), .bin .add (T 22) (T 23), none⟩,
          ⟨(some 25), .iaddr none (T 21) (T 24), none⟩,
          ⟨(some 26), .load none (T 25), none⟩,
          ⟨(some 27), .ci .u64 (T 26), none⟩,
          ⟨(some 28), .bin .or (T 20) (T 27), none⟩,
          ⟨(some 8), .mv (T 28), none⟩])))
      (.reg [⟨(some 29), .bin .add (T 16) (C (1)), none⟩,
        ⟨(some 16), .mv (T 29), none⟩])))))))
  (.seq (.reg [⟨(some 30), .mv (T 8), none⟩,
    ⟨(some 6), .mv (T 30), none⟩,
    ⟨(some 7), .mv (.const (.bool true)), none⟩])
  .ret)))))
theorem e_codec_GetBe : slimC Tryd.prog 31 (Tryd.f46.body.getD .skip) = s_codec_GetBe := by kernel_rfl
theorem r_codec_GetBe : slimRes Tryd.prog Tryd.f46 = some [.tmp 6, .tmp 7] := by kernel_rfl

end Go.Proofs.YtmgmlbbbjjnmpaaDoor.Aw
