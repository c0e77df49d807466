/-
  THE SLIM CODE of functions of the program, printed by a program of mine and held by the kernel.
-/
import Derived.Test.YtljmllmfjfimpaaAwV
import Derived.Test.YtljmllmfjfimpaaProg
namespace Go.Proofs.Ytljmllmfjfimpaa.Aw
open Go
set_option maxRecDepth 100000
set_option linter.unusedSimpArgs false
abbrev n_bytes_Clone : Nat := 31
abbrev n_drayagelaw03_HuffBack : Nat := 6
abbrev n_drayagelaw03_HuffCodes : Nat := 4
abbrev n_drayagelaw03_HuffNext : Nat := 5
abbrev n_drayagelaw03_HuffReads : Nat := 3
abbrev n_drayagelaw03_awake : Nat := 8
abbrev n_drayageref03_Bits : Nat := 10
abbrev n_drayageref03_Check : Nat := 35
abbrev n_drayageref03_Codes : Nat := 17
abbrev n_drayageref03_Full : Nat := 20
abbrev n_drayageref03_Next : Nat := 23
abbrev n_drayageref03_Number : Nat := 12
abbrev n_drayageref03_Row : Nat := 39
abbrev n_drayageref03_head : Nat := 40
abbrev n_drayageref03_share : Nat := 37
abbrev n_huff_Check : Nat := 18
abbrev n_huff_Codes : Nat := 16
abbrev n_huff_Full : Nat := 19
abbrev n_huff_NewReader : Nat := 9
abbrev n_huff_NewTree : Nat := 21
abbrev n_huff_NewWriter : Nat := 24
abbrev n_huff_Reader_Align : Nat := 13
abbrev n_huff_Reader_At : Nat := 15
abbrev n_huff_Reader_Bytes : Nat := 14
abbrev n_huff_Reader_Take : Nat := 11
abbrev n_huff_Reader_bit : Nat := 33
abbrev n_huff_Reader_left : Nat := 32
abbrev n_huff_Tree_Next : Nat := 22
abbrev n_huff_Tree_begins : Nat := 38
abbrev n_huff_Writer_Bytes : Nat := 26
abbrev n_huff_Writer_Code : Nat := 25
abbrev n_huff_Writer_Len : Nat := 27
abbrev n_huff_Writer_Put : Nat := 30
abbrev n_huff_Writer_bit : Nat := 41
abbrev n_huff_firstRows : Nat := 34
abbrev n_huff_taken : Nat := 36
theorem mix : Try.prog.follows .mixedOrders = true := by kernel_rfl
/-- The slim code of drayage/drayagelaw03.HuffReads. -/
def s_drayagelaw03_HuffReads : SCode :=
  (.seq (.reg [⟨(some 4), .mv (.const (.bool false)), none⟩])
  (.seq (.seq (.reg [⟨(some 16), .call true n_drayagelaw03_awake [], none⟩,
    ⟨(some 17), .un .not (T 16), none⟩])
  (.cond (T 17)
    (.seq (.reg [⟨(some 4), .mv (.const (.bool false)), none⟩])
    .ret)
    .skip))
  (.seq (.seq (.reg [⟨(some 18), .mv (T 0), none⟩,
    ⟨(some 19), .len false (T 18), none⟩,
    ⟨(some 20), .bin .gtr (T 19) (C (200)), none⟩,
    ⟨(some 21), .mv (T 20), none⟩,
    ⟨(some 22), .mv (T 1), (some (21, false))⟩,
    ⟨(some 23), .len false (T 22), (some (21, false))⟩,
    ⟨(some 24), .bin .gtr (T 23) (C (60)), (some (21, false))⟩,
    ⟨(some 25), .pick (T 21) (.const (.bool true)) (T 24), none⟩])
  (.cond (T 25)
    (.seq (.reg [⟨(some 4), .mv (.const (.bool true)), none⟩])
    .ret)
    .skip))
  (.seq (.reg [⟨(some 26), .mv (T 0), none⟩,
    ⟨(some 27), .call true n_huff_NewReader [(T 26)], none⟩,
    ⟨(some 5), .mv (T 27), none⟩])
  (.seq (.reg [⟨(some 28), .mv (T 0), none⟩,
    ⟨(some 29), .call true n_drayageref03_Bits [(T 28)], none⟩,
    ⟨(some 6), .mv (T 29), none⟩])
  (.seq (.reg [⟨(some 7), .mv (C (0)), none⟩])
  (.seq (.seq (.reg [⟨(some 8), .mv (C (0)), none⟩])
  (.block 0
    (.loop
      (.seq (.seq (.reg [⟨(some 30), .mv (T 8), none⟩,
        ⟨(some 31), .mv (T 1), none⟩,
        ⟨(some 32), .len false (T 31), none⟩,
        ⟨(some 33), .bin .lss (T 30) (T 32), none⟩,
        ⟨(some 34), .mv (T 33), none⟩,
        ⟨(some 35), .mv (T 5), (some (34, true))⟩,
        ⟨(some 36), .isnilp true (T 35), (some (34, true))⟩,
        ⟨(some 37), .pick (T 34) (T 36) (.const (.bool false)), none⟩])
      (.cond (T 37)
        .skip
        (.exit 0)))
      (.seq (.block 1
        (.seq (.reg [⟨(some 40), .mv (T 1), none⟩,
          ⟨(some 41), .mv (T 8), none⟩,
          ⟨(some 42), .iaddr (some 4) (T 40) (T 41), none⟩,
          ⟨(some 43), .faddr 2 (T 42), none⟩,
          ⟨(some 44), .load none (T 43), none⟩,
          ⟨(some 9), .mv (T 44), none⟩])
        (.seq (.seq (.reg [⟨(some 45), .mv (T 1), none⟩,
          ⟨(some 46), .mv (T 8), none⟩,
          ⟨(some 47), .iaddr (some 4) (T 45) (T 46), none⟩,
          ⟨(some 48), .faddr 0 (T 47), none⟩,
          ⟨(some 49), .load none (T 48), none⟩])
        (.block 2
          (.seq (.reg [⟨(some 51), .bin .eql (T 49) (C (1)), none⟩,
            ⟨(some 50), .mv (T 51), none⟩])
          (.cond (T 50)
            (.seq (.reg [⟨(some 53), .mv (T 5), none⟩,
              ⟨(some 54), .mv (T 9), none⟩,
              ⟨(some 55), .call true n_huff_Reader_Take [(T 53), (T 54)], none⟩,
              ⟨(some 52), .mv (T 55), none⟩,
              ⟨(some 56), .ext (T 52) 0, none⟩,
              ⟨(some 57), .ext (T 52) 1, none⟩,
              ⟨(some 10), .mv (T 56), none⟩,
              ⟨(some 11), .mv (T 57), none⟩])
            (.seq (.reg [⟨(some 58), .mv (T 9), none⟩,
              ⟨(some 59), .bin .geq (T 58) (C (0)), none⟩,
              ⟨(some 60), .mv (T 59), none⟩,
              ⟨(some 61), .mv (T 9), (some (60, true))⟩,
              ⟨(some 62), .bin .leq (T 61) (C (24)), (some (60, true))⟩,
              ⟨(some 63), .pick (T 60) (T 62) (.const (.bool false)), none⟩,
              ⟨(some 64), .mv (T 63), none⟩,
              ⟨(some 65), .mv (T 9), (some (64, true))⟩,
              ⟨(some 66), .mv (T 6), (some (64, true))⟩,
              ⟨(some 67), .len false (T 66), (some (64, true))⟩,
              ⟨(some 68), .mv (T 7), (some (64, true))⟩,
              ⟨(some 69), .bin .sub (T 67) (T 68), (some (64, true))⟩,
              ⟨(some 70), .bin .leq (T 65) (T 69), (some (64, true))⟩,
              ⟨(some 71), .pick (T 64) (T 70) (.const (.bool false)), none⟩,
              ⟨(some 12), .mv (T 71), none⟩])
            (.seq (.seq (.reg [⟨(some 72), .mv (T 11), none⟩,
              ⟨(some 73), .mv (T 12), none⟩,
              ⟨(some 74), .beq true (T 72) (T 73), none⟩,
              ⟨(some 75), .mv (T 74), none⟩,
              ⟨(some 76), .mv (T 11), (some (75, false))⟩,
              ⟨(some 77), .un .not (T 76), (some (75, false))⟩,
              ⟨(some 78), .mv (T 77), (some (75, false))⟩,
              ⟨(some 79), .mv (T 10), (some (78, true))⟩,
              ⟨(some 80), .bin .neq (T 79) (C (0)), (some (78, true))⟩,
              ⟨(some 81), .pick (T 78) (T 80) (.const (.bool false)), (some (75, false))⟩,
              ⟨(some 82), .pick (T 75) (.const (.bool true)) (T 81), none⟩,
              ⟨(some 83), .mv (T 82), none⟩,
              ⟨(some 84), .mv (T 11), (some (83, false))⟩,
              ⟨(some 85), .mv (T 84), (some (83, false))⟩,
              ⟨(some 86), .mv (T 10), (some (85, true))⟩,
              ⟨(some 87), .mv (T 6), (some (85, true))⟩,
              ⟨(some 88), .mv (T 7), (some (85, true))⟩,
              ⟨(some 89), .mv (T 7), (some (85, true))⟩,
              ⟨(some 90), .mv (T 9), (some (85, true))⟩,
              ⟨(some 91), .bin .add (T 89) (T 90), (some (85, true))⟩,
              ⟨(some 92), .sl none (T 87) (some (T 88)) (some (T 91)), (some (85, true))⟩,
              ⟨(some 93), .call true n_drayageref03_Number [(T 92)], (some (85, true))⟩,
              ⟨(some 94), .bin .neq (T 86) (T 93), (some (85, true))⟩,
              ⟨(some 95), .pick (T 85) (T 94) (.const (.bool false)), (some (83, false))⟩,
              ⟨(some 96), .pick (T 83) (.const (.bool true)) (T 95), none⟩])
            (.cond (T 96)
              (.seq (.reg [⟨(some 4), .mv (.const (.bool false)), none⟩])
              .ret)
              .skip))
            (.seq (.reg [⟨(some 97), .mv (T 12), none⟩])
            (.cond (T 97)
              (.reg [⟨(some 98), .mv (T 7), none⟩,
                ⟨(some 99), .mv (T 9), none⟩,
                ⟨(some 100), .bin .add (T 98) (T 99), none⟩,
                ⟨(some 7), .mv (T 100), none⟩])
              .skip)))))
            (.seq (.reg [⟨(some 102), .bin .eql (T 49) (C (2)), none⟩,
              ⟨(some 101), .mv (T 102), none⟩])
            (.cond (T 101)
              (.seq (.reg [⟨(some 103), .mv (T 5), none⟩,
                ⟨(some 104), .call true n_huff_Reader_Align [(T 103)], none⟩])
              (.reg [⟨(some 105), .mv (T 7), none⟩,
                ⟨(some 106), .bin .add (T 105) (C (7)), none⟩,
                ⟨(some 107), .bin .quo (T 106) (C (8)), none⟩,
                ⟨(some 108), .bin .mul (T 107) (C (8)), none⟩,
                ⟨(some 7), .mv (T 108), none⟩]))
              (.seq (.reg [⟨(some 110), .bin .eql (T 49) (C (3)), none⟩,
                ⟨(some 109), .mv (T 110), none⟩])
              (.cond (T 109)
                (.seq (.reg [⟨(some 112), .mv (T 5), none⟩,
                  ⟨(some 113), .mv (T 9), none⟩,
                  ⟨(some 114), .call true n_huff_Reader_Bytes [(T 112), (T 113)], none⟩,
                  ⟨(some 111), .mv (T 114), none⟩,
                  ⟨(some 115), .ext (T 111) 0, none⟩,
                  ⟨(some 116), .ext (T 111) 1, none⟩,
                  ⟨(some 13), .mv (T 115), none⟩,
                  ⟨(some 14), .mv (T 116), none⟩])
                (.seq (.reg [⟨(some 117), .mv (T 7), none⟩,
                  ⟨(some 118), .bin .add (T 117) (C (7)), none⟩,
                  ⟨(some 119), .bin .quo (T 118) (C (8)), none⟩,
                  ⟨(some 120), .bin .mul (T 119) (C (8)), none⟩,
                  ⟨(some 7), .mv (T 120), none⟩])
                (.seq (.reg [⟨(some 121), .mv (T 9), none⟩,
                  ⟨(some 122), .bin .geq (T 121) (C (0)), none⟩,
                  ⟨(some 123), .mv (T 122), none⟩,
                  ⟨(some 124), .mv (T 9), (some (123, true))⟩,
                  ⟨(some 125), .mv (T 0), (some (123, true))⟩,
                  ⟨(some 126), .len false (T 125), (some (123, true))⟩,
                  ⟨(some 127), .mv (T 7), (some (123, true))⟩,
                  ⟨(some 128), .bin .quo (T 127) (C (8)), (some (123, true))⟩,
                  ⟨(some 129), .bin .sub (T 126) (T 128), (some (123, true))⟩,
                  ⟨(some 130), .bin .leq (T 124) (T 129), (some (123, true))⟩,
                  ⟨(some 131), .pick (T 123) (T 130) (.const (.bool false)), none⟩,
                  ⟨(some 15), .mv (T 131), none⟩])
                (.seq (.seq (.reg [⟨(some 132), .mv (T 14), none⟩,
                  ⟨(some 133), .mv (T 15), none⟩,
                  ⟨(some 134), .beq true (T 132) (T 133), none⟩,
                  ⟨(some 135), .mv (T 134), none⟩,
                  ⟨(some 136), .mv (T 14), (some (135, false))⟩,
                  ⟨(some 137), .un .not (T 136), (some (135, false))⟩,
                  ⟨(some 138), .mv (T 137), (some (135, false))⟩,
                  ⟨(some 139), .mv (T 13), (some (138, true))⟩,
                  ⟨(some 140), .len false (T 139), (some (138, true))⟩,
                  ⟨(some 141), .bin .neq (T 140) (C (0)), (some (138, true))⟩,
                  ⟨(some 142), .pick (T 138) (T 141) (.const (.bool false)), (some (135, false))⟩,
                  ⟨(some 143), .pick (T 135) (.const (.bool true)) (T 142), none⟩,
                  ⟨(some 144), .mv (T 143), none⟩,
                  ⟨(some 145), .mv (T 14), (some (144, false))⟩,
                  ⟨(some 146), .mv (T 145), (some (144, false))⟩,
                  ⟨(some 147), .mv (T 13), (some (146, true))⟩,
                  ⟨(some 148), .b2s (T 147), (some (146, true))⟩,
                  ⟨(some 149), .mv (T 0), (some (146, true))⟩,
                  ⟨(some 150), .mv (T 7), (some (146, true))⟩,
                  ⟨(some 151), .bin .quo (T 150) (C (8)), (some (146, true))⟩,
                  ⟨(some 152), .mv (T 7), (some (146, true))⟩,
                  ⟨(some 153), .bin .quo (T 152) (C (8)), (some (146, true))⟩,
                  ⟨(some 154), .mv (T 9), (some (146, true))⟩,
                  ⟨(some 155), .bin .add (T 153) (T 154), (some (146, true))⟩,
                  ⟨(some 156), .sl none (T 149) (some (T 151)) (some (T 155)), (some (146, true))⟩,
                  ⟨(some 157), .b2s (T 156), (some (146, true))⟩,
                  ⟨(some 158), .bin .neq (T 148) (T 157), (some (146, true))⟩,
                  ⟨(some 159), .pick (T 146) (T 158) (.const (.bool false)), (some (144, false))⟩,
                  ⟨(some 160), .pick (T 144) (.const (.bool true)) (T 159), none⟩])
                (.cond (T 160)
                  (.seq (.reg [⟨(some 4), .mv (.const (.bool false)), none⟩])
                  .ret)
                  .skip))
                (.seq (.reg [⟨(some 161), .mv (T 15), none⟩])
                (.cond (T 161)
                  (.reg [⟨(some 162), .mv (T 7), none⟩,
                    ⟨(some 163), .mv (T 9), none⟩,
                    ⟨(some 164), .bin .mul (C (8)) (T 163), none⟩,
                    ⟨(some 165), .bin .add (T 162) (T 164), none⟩,
                    ⟨(some 7), .mv (T 165), none⟩])
                  .skip))))))
                .skip))))))))
        (.seq (.reg [⟨(some 166), .mv (T 5), none⟩,
          ⟨(some 167), .call true n_huff_Reader_At [(T 166)], none⟩,
          ⟨(some 168), .mv (T 7), none⟩,
          ⟨(some 169), .bin .neq (T 167) (T 168), none⟩])
        (.cond (T 169)
          (.seq (.reg [⟨(some 4), .mv (.const (.bool false)), none⟩])
          .ret)
          .skip)))))
      (.reg [⟨(some 38), .mv (T 8), none⟩,
        ⟨(some 39), .bin .add (T 38) (C (1)), none⟩,
        ⟨(some 8), .mv (T 39), none⟩]))))))
  (.seq (.reg [⟨(some 170), .mv (T 5), none⟩,
    ⟨(some 171), .isnilp true (T 170), none⟩,
    ⟨(some 4), .mv (T 171), none⟩])
  .ret))))))))
theorem e_drayagelaw03_HuffReads : slimC Try.prog 172 (Try.f3.body.getD .skip) = s_drayagelaw03_HuffReads := by kernel_rfl
theorem r_drayagelaw03_HuffReads : slimRes Try.prog Try.f3 = some [.tmp 4] := by kernel_rfl

/-- The slim code of drayage/drayagelaw03.HuffCodes. -/
def s_drayagelaw03_HuffCodes : SCode :=
  (.seq (.reg [⟨(some 2), .mv (.const (.bool false)), none⟩])
  (.seq (.seq (.reg [⟨(some 8), .call true n_drayagelaw03_awake [], none⟩,
    ⟨(some 9), .un .not (T 8), none⟩])
  (.cond (T 9)
    (.seq (.reg [⟨(some 2), .mv (.const (.bool false)), none⟩])
    .ret)
    .skip))
  (.seq (.seq (.reg [⟨(some 10), .mv (T 0), none⟩,
    ⟨(some 11), .len false (T 10), none⟩,
    ⟨(some 12), .bin .gtr (T 11) (C (400)), none⟩])
  (.cond (T 12)
    (.seq (.reg [⟨(some 2), .mv (.const (.bool true)), none⟩])
    .ret)
    .skip))
  (.seq (.reg [⟨(some 14), .mv (T 0), none⟩,
    ⟨(some 15), .call true n_huff_Codes [(T 14)], none⟩,
    ⟨(some 13), .mv (T 15), none⟩,
    ⟨(some 16), .ext (T 13) 0, none⟩,
    ⟨(some 17), .ext (T 13) 1, none⟩,
    ⟨(some 3), .mv (T 16), none⟩,
    ⟨(some 4), .mv (T 17), none⟩])
  (.seq (.reg [⟨(some 19), .mv (T 0), none⟩,
    ⟨(some 20), .call true n_drayageref03_Codes [(T 19)], none⟩,
    ⟨(some 18), .mv (T 20), none⟩,
    ⟨(some 21), .ext (T 18) 0, none⟩,
    ⟨(some 22), .ext (T 18) 1, none⟩,
    ⟨(some 5), .mv (T 21), none⟩,
    ⟨(some 6), .mv (T 22), none⟩])
  (.seq (.seq (.reg [⟨(some 23), .mv (T 4), none⟩,
    ⟨(some 24), .mv (T 6), none⟩,
    ⟨(some 25), .bin .neq (T 23) (T 24), none⟩,
    ⟨(some 26), .mv (T 25), none⟩,
    ⟨(some 27), .mv (T 3), (some (26, false))⟩,
    ⟨(some 28), .len false (T 27), (some (26, false))⟩,
    ⟨(some 29), .mv (T 5), (some (26, false))⟩,
    ⟨(some 30), .len false (T 29), (some (26, false))⟩,
    ⟨(some 31), .bin .neq (T 28) (T 30), (some (26, false))⟩,
    ⟨(some 32), .pick (T 26) (.const (.bool true)) (T 31), none⟩,
    ⟨(some 33), .mv (T 32), none⟩,
    ⟨(some 34), .mv (T 0), (some (33, false))⟩,
    ⟨(some 35), .call true n_huff_Check [(T 34)], (some (33, false))⟩,
    ⟨(some 36), .mv (T 6), (some (33, false))⟩,
    ⟨(some 37), .bin .neq (T 35) (T 36), (some (33, false))⟩,
    ⟨(some 38), .pick (T 33) (.const (.bool true)) (T 37), none⟩,
    ⟨(some 39), .mv (T 38), none⟩,
    ⟨(some 40), .mv (T 0), (some (39, false))⟩,
    ⟨(some 41), .call true n_huff_Full [(T 40)], (some (39, false))⟩,
    ⟨(some 42), .mv (T 0), (some (39, false))⟩,
    ⟨(some 43), .call true n_drayageref03_Full [(T 42)], (some (39, false))⟩,
    ⟨(some 44), .beq true (T 41) (T 43), (some (39, false))⟩,
    ⟨(some 45), .pick (T 39) (.const (.bool true)) (T 44), none⟩])
  (.cond (T 45)
    (.seq (.reg [⟨(some 2), .mv (.const (.bool false)), none⟩])
    .ret)
    .skip))
  (.seq (.seq (.reg [⟨(some 7), .mv (C (0)), none⟩])
  (.block 0
    (.loop
      (.seq (.seq (.reg [⟨(some 46), .mv (T 7), none⟩,
        ⟨(some 47), .mv (T 3), none⟩,
        ⟨(some 48), .len false (T 47), none⟩,
        ⟨(some 49), .bin .lss (T 46) (T 48), none⟩])
      (.cond (T 49)
        .skip
        (.exit 0)))
      (.seq (.block 1
        (.seq (.reg [⟨(some 52), .mv (T 3), none⟩,
          ⟨(some 53), .mv (T 7), none⟩,
          ⟨(some 54), .iaddr none (T 52) (T 53), none⟩,
          ⟨(some 55), .load none (T 54), none⟩,
          ⟨(some 56), .mv (T 5), none⟩,
          ⟨(some 57), .mv (T 7), none⟩,
          ⟨(some 58), .iaddr none (T 56) (T 57), none⟩,
          ⟨(some 59), .load none (T 58), none⟩,
          ⟨(some 60), .bin .neq (T 55) (T 59), none⟩])
        (.cond (T 60)
          (.seq (.reg [⟨(some 2), .mv (.const (.bool false)), none⟩])
          .ret)
          .skip)))
      (.reg [⟨(some 50), .mv (T 7), none⟩,
        ⟨(some 51), .bin .add (T 50) (C (1)), none⟩,
        ⟨(some 7), .mv (T 51), none⟩]))))))
  (.seq (.reg [⟨(some 2), .mv (.const (.bool true)), none⟩])
  .ret))))))))
theorem e_drayagelaw03_HuffCodes : slimC Try.prog 61 (Try.f4.body.getD .skip) = s_drayagelaw03_HuffCodes := by kernel_rfl
theorem r_drayagelaw03_HuffCodes : slimRes Try.prog Try.f4 = some [.tmp 2] := by kernel_rfl

/-- The slim code of drayage/drayagelaw03.HuffNext. -/
def s_drayagelaw03_HuffNext : SCode :=
  (.seq (.reg [⟨(some 4), .mv (.const (.bool false)), none⟩])
  (.seq (.seq (.reg [⟨(some 15), .call true n_drayagelaw03_awake [], none⟩,
    ⟨(some 16), .un .not (T 15), none⟩])
  (.cond (T 16)
    (.seq (.reg [⟨(some 4), .mv (.const (.bool false)), none⟩])
    .ret)
    .skip))
  (.seq (.seq (.reg [⟨(some 17), .mv (T 0), none⟩,
    ⟨(some 18), .len false (T 17), none⟩,
    ⟨(some 19), .bin .gtr (T 18) (C (60)), none⟩,
    ⟨(some 20), .mv (T 19), none⟩,
    ⟨(some 21), .mv (T 1), (some (20, false))⟩,
    ⟨(some 22), .len false (T 21), (some (20, false))⟩,
    ⟨(some 23), .bin .gtr (T 22) (C (60)), (some (20, false))⟩,
    ⟨(some 24), .pick (T 20) (.const (.bool true)) (T 23), none⟩])
  (.cond (T 24)
    (.seq (.reg [⟨(some 4), .mv (.const (.bool true)), none⟩])
    .ret)
    .skip))
  (.seq (.reg [⟨(some 26), .mv (T 0), none⟩,
    ⟨(some 27), .call true n_huff_NewTree [(T 26)], none⟩,
    ⟨(some 25), .mv (T 27), none⟩,
    ⟨(some 28), .ext (T 25) 0, none⟩,
    ⟨(some 29), .ext (T 25) 1, none⟩,
    ⟨(some 5), .mv (T 28), none⟩,
    ⟨(some 6), .mv (T 29), none⟩])
  (.seq (.reg [⟨(some 31), .mv (T 0), none⟩,
    ⟨(some 32), .call true n_drayageref03_Codes [(T 31)], none⟩,
    ⟨(some 30), .mv (T 32), none⟩,
    ⟨(some 33), .ext (T 30) 0, none⟩,
    ⟨(some 34), .ext (T 30) 1, none⟩,
    ⟨(some 7), .mv (T 33), none⟩,
    ⟨(some 8), .mv (T 34), none⟩])
  (.seq (.seq (.reg [⟨(some 35), .mv (T 6), none⟩,
    ⟨(some 36), .mv (T 8), none⟩,
    ⟨(some 37), .bin .neq (T 35) (T 36), none⟩,
    ⟨(some 38), .mv (T 37), none⟩,
    ⟨(some 39), .mv (T 5), (some (38, false))⟩,
    ⟨(some 40), .isnilp false (T 39), (some (38, false))⟩,
    ⟨(some 41), .mv (T 8), (some (38, false))⟩,
    ⟨(some 42), .bin .neq (T 41) (C (0)), (some (38, false))⟩,
    ⟨(some 43), .beq true (T 40) (T 42), (some (38, false))⟩,
    ⟨(some 44), .pick (T 38) (.const (.bool true)) (T 43), none⟩])
  (.cond (T 44)
    (.seq (.reg [⟨(some 4), .mv (.const (.bool false)), none⟩])
    .ret)
    .skip))
  (.seq (.seq (.reg [⟨(some 45), .mv (T 5), none⟩,
    ⟨(some 46), .isnilp false (T 45), none⟩])
  (.cond (T 46)
    (.seq (.reg [⟨(some 4), .mv (.const (.bool true)), none⟩])
    .ret)
    .skip))
  (.seq (.reg [⟨(some 47), .mv (T 1), none⟩,
    ⟨(some 48), .call true n_huff_NewReader [(T 47)], none⟩,
    ⟨(some 9), .mv (T 48), none⟩])
  (.seq (.reg [⟨(some 49), .mv (T 1), none⟩,
    ⟨(some 50), .call true n_drayageref03_Bits [(T 49)], none⟩,
    ⟨(some 10), .mv (T 50), none⟩])
  (.seq (.seq (.reg [⟨(some 11), .mv (C (0)), none⟩])
  (.block 0
    (.loop
      (.seq (.seq (.reg [⟨(some 51), .mv (T 11), none⟩,
        ⟨(some 52), .bin .lss (T 51) (C (500)), none⟩])
      (.cond (T 52)
        .skip
        (.exit 0)))
      (.seq (.block 1
        (.seq (.reg [⟨(some 56), .mv (T 5), none⟩,
          ⟨(some 57), .mv (T 9), none⟩,
          ⟨(some 58), .call true n_huff_Tree_Next [(T 56), (T 57)], none⟩,
          ⟨(some 55), .mv (T 58), none⟩,
          ⟨(some 59), .ext (T 55) 0, none⟩,
          ⟨(some 60), .ext (T 55) 1, none⟩,
          ⟨(some 12), .mv (T 59), none⟩,
          ⟨(some 13), .mv (T 60), none⟩])
        (.seq (.reg [⟨(some 61), .mv (T 0), none⟩,
          ⟨(some 62), .mv (T 7), none⟩,
          ⟨(some 63), .mv (T 10), none⟩,
          ⟨(some 64), .call true n_drayageref03_Next [(T 61), (T 62), (T 63)], none⟩,
          ⟨(some 14), .alloc [(.int .i64 (0)), (.slice none 0 0), (.int .i64 (0))], none⟩,
          ⟨none, .store (some 3) (T 14) (T 64), none⟩])
        (.seq (.seq (.reg [⟨(some 65), .mv (T 12), none⟩,
          ⟨(some 66), .faddr 0 (T 14), none⟩,
          ⟨(some 67), .load none (T 66), none⟩,
          ⟨(some 68), .bin .neq (T 65) (T 67), none⟩,
          ⟨(some 69), .mv (T 68), none⟩,
          ⟨(some 70), .mv (T 13), (some (69, false))⟩,
          ⟨(some 71), .faddr 2 (T 14), (some (69, false))⟩,
          ⟨(some 72), .load none (T 71), (some (69, false))⟩,
          ⟨(some 73), .bin .neq (T 70) (T 72), (some (69, false))⟩,
          ⟨(some 74), .pick (T 69) (.const (.bool true)) (T 73), none⟩,
          ⟨(some 75), .mv (T 74), none⟩,
          ⟨(some 76), .mv (T 9), (some (75, false))⟩,
          ⟨(some 77), .call false n_huff_Reader_At [(T 76)], (some (75, false))⟩,
          ⟨(some 78), .mv (T 1), (some (75, false))⟩,
          ⟨(some 79), .len false (T 78), (some (75, false))⟩,
          ⟨(some 80), .bin .mul (C (8)) (T 79), (some (75, false))⟩,
          ⟨(some 81), .faddr 1 (T 14), (some (75, false))⟩,
          ⟨(some 82), .load none (T 81), (some (75, false))⟩,
          ⟨(some 83), .len false (T 82), (some (75, false))⟩,
          ⟨(some 84), .bin .sub (T 80) (T 83), (some (75, false))⟩,
          ⟨(some 85), .bin .neq (T 77) (T 84), (some (75, false))⟩,
          ⟨(some 86), .pick (T 75) (.const (.bool true)) (T 85), none⟩])
        (.cond (T 86)
          (.seq (.reg [⟨(some 4), .mv (.const (.bool false)), none⟩])
          .ret)
          .skip))
        (.seq (.seq (.reg [⟨(some 87), .mv (T 13), none⟩,
          ⟨(some 88), .bin .neq (T 87) (C (0)), none⟩])
        (.cond (T 88)
          (.seq (.reg [⟨(some 4), .mv (.const (.bool true)), none⟩])
          .ret)
          .skip))
        (.reg [⟨(some 89), .faddr 1 (T 14), none⟩,
          ⟨(some 90), .load none (T 89), none⟩,
          ⟨(some 10), .mv (T 90), none⟩]))))))
      (.reg [⟨(some 53), .mv (T 11), none⟩,
        ⟨(some 54), .bin .add (T 53) (C (1)), none⟩,
        ⟨(some 11), .mv (T 54), none⟩]))))))
  (.seq (.reg [⟨(some 4), .mv (.const (.bool true)), none⟩])
  .ret)))))))))))
theorem e_drayagelaw03_HuffNext : slimC Try.prog 91 (Try.f5.body.getD .skip) = s_drayagelaw03_HuffNext := by kernel_rfl
theorem r_drayagelaw03_HuffNext : slimRes Try.prog Try.f5 = some [.tmp 4] := by kernel_rfl

/-- The slim code of drayage/drayagelaw03.HuffBack. -/
def s_drayagelaw03_HuffBack : SCode :=
  (.seq (.reg [⟨(some 4), .mv (.const (.bool false)), none⟩])
  (.seq (.seq (.reg [⟨(some 17), .call true n_drayagelaw03_awake [], none⟩,
    ⟨(some 18), .un .not (T 17), none⟩])
  (.cond (T 18)
    (.seq (.reg [⟨(some 4), .mv (.const (.bool false)), none⟩])
    .ret)
    .skip))
  (.seq (.seq (.reg [⟨(some 19), .mv (T 0), none⟩,
    ⟨(some 20), .len false (T 19), none⟩,
    ⟨(some 21), .bin .gtr (T 20) (C (100)), none⟩,
    ⟨(some 22), .mv (T 21), none⟩,
    ⟨(some 23), .mv (T 1), (some (22, false))⟩,
    ⟨(some 24), .len false (T 23), (some (22, false))⟩,
    ⟨(some 25), .bin .gtr (T 24) (C (200)), (some (22, false))⟩,
    ⟨(some 26), .pick (T 22) (.const (.bool true)) (T 25), none⟩])
  (.cond (T 26)
    (.seq (.reg [⟨(some 4), .mv (.const (.bool true)), none⟩])
    .ret)
    .skip))
  (.seq (.reg [⟨(some 28), .mv (T 0), none⟩,
    ⟨(some 29), .call true n_huff_Codes [(T 28)], none⟩,
    ⟨(some 27), .mv (T 29), none⟩,
    ⟨(some 30), .ext (T 27) 0, none⟩,
    ⟨(some 31), .ext (T 27) 1, none⟩,
    ⟨(some 5), .mv (T 30), none⟩,
    ⟨(some 6), .mv (T 31), none⟩])
  (.seq (.reg [⟨(some 33), .mv (T 0), none⟩,
    ⟨(some 34), .call true n_huff_NewTree [(T 33)], none⟩,
    ⟨(some 32), .mv (T 34), none⟩,
    ⟨(some 35), .ext (T 32) 0, none⟩,
    ⟨(some 36), .ext (T 32) 1, none⟩,
    ⟨(some 7), .mv (T 35), none⟩,
    ⟨(some 8), .mv (T 36), none⟩])
  (.seq (.seq (.reg [⟨(some 37), .mv (T 6), none⟩,
    ⟨(some 38), .bin .neq (T 37) (C (0)), none⟩,
    ⟨(some 39), .mv (T 38), none⟩,
    ⟨(some 40), .mv (T 8), (some (39, false))⟩,
    ⟨(some 41), .bin .neq (T 40) (C (0)), (some (39, false))⟩,
    ⟨(some 42), .pick (T 39) (.const (.bool true)) (T 41), none⟩,
    ⟨(some 43), .mv (T 42), none⟩,
    ⟨(some 44), .mv (T 7), (some (43, false))⟩,
    ⟨(some 45), .isnilp false (T 44), (some (43, false))⟩,
    ⟨(some 46), .pick (T 43) (.const (.bool true)) (T 45), none⟩])
  (.cond (T 46)
    (.seq (.reg [⟨(some 47), .mv (T 6), none⟩,
      ⟨(some 48), .bin .neq (T 47) (C (0)), none⟩,
      ⟨(some 49), .mv (T 48), none⟩,
      ⟨(some 50), .mv (T 8), (some (49, true))⟩,
      ⟨(some 51), .mv (T 6), (some (49, true))⟩,
      ⟨(some 52), .bin .eql (T 50) (T 51), (some (49, true))⟩,
      ⟨(some 53), .pick (T 49) (T 52) (.const (.bool false)), none⟩,
      ⟨(some 54), .mv (T 53), none⟩,
      ⟨(some 55), .mv (T 7), (some (54, true))⟩,
      ⟨(some 56), .isnilp false (T 55), (some (54, true))⟩,
      ⟨(some 57), .pick (T 54) (T 56) (.const (.bool false)), none⟩,
      ⟨(some 4), .mv (T 57), none⟩])
    .ret)
    .skip))
  (.seq (.reg [⟨(some 58), .call true n_huff_NewWriter [], none⟩,
    ⟨(some 9), .mv (T 58), none⟩])
  (.seq (.reg [⟨(some 10), .mv (.const (.slice none 0 0)), none⟩])
  (.seq (.seq (.reg [⟨(some 11), .mv (C (0)), none⟩])
  (.block 0
    (.loop
      (.seq (.seq (.reg [⟨(some 59), .mv (T 11), none⟩,
        ⟨(some 60), .mv (T 1), none⟩,
        ⟨(some 61), .len false (T 60), none⟩,
        ⟨(some 62), .bin .lss (T 59) (T 61), none⟩])
      (.cond (T 62)
        .skip
        (.exit 0)))
      (.seq (.block 1
        (.seq (.reg [⟨(some 65), .mv (T 1), none⟩,
          ⟨(some 66), .mv (T 11), none⟩,
          ⟨(some 67), .iaddr none (T 65) (T 66), none⟩,
          ⟨(some 68), .load none (T 67), none⟩,
          ⟨(some 12), .mv (T 68), none⟩])
        (.seq (.reg [⟨(some 69), .mv (T 12), none⟩,
          ⟨(some 70), .bin .geq (T 69) (C (0)), none⟩,
          ⟨(some 71), .mv (T 70), none⟩,
          ⟨(some 72), .mv (T 12), (some (71, true))⟩,
          ⟨(some 73), .mv (T 0), (some (71, true))⟩,
          ⟨(some 74), .len false (T 73), (some (71, true))⟩,
          ⟨(some 75), .bin .lss (T 72) (T 74), (some (71, true))⟩,
          ⟨(some 76), .pick (T 71) (T 75) (.const (.bool false)), none⟩,
          ⟨(some 77), .mv (T 76), none⟩,
          ⟨(some 78), .mv (T 0), (some (77, true))⟩,
          ⟨(some 79), .mv (T 12), (some (77, true))⟩,
          ⟨(some 80), .iaddr none (T 78) (T 79), (some (77, true))⟩,
          ⟨(some 81), .load none (T 80), (some (77, true))⟩,
          ⟨(some 82), .bin .gtr (T 81) (C (0)), (some (77, true))⟩,
          ⟨(some 83), .pick (T 77) (T 82) (.const (.bool false)), none⟩])
        (.cond (T 83)
          (.seq (.reg [⟨(some 84), .mv (T 9), none⟩,
            ⟨(some 85), .mv (T 5), none⟩,
            ⟨(some 86), .mv (T 12), none⟩,
            ⟨(some 87), .iaddr none (T 85) (T 86), none⟩,
            ⟨(some 88), .load none (T 87), none⟩,
            ⟨(some 89), .mv (T 0), none⟩,
            ⟨(some 90), .mv (T 12), none⟩,
            ⟨(some 91), .iaddr none (T 89) (T 90), none⟩,
            ⟨(some 92), .load none (T 91), none⟩,
            ⟨(some 93), .call true n_huff_Writer_Code [(T 84), (T 88), (T 92)], none⟩])
          (.reg [⟨(some 94), .mv (T 10), none⟩,
            ⟨(some 95), .mv (T 12), none⟩,
            ⟨(some 96), .bslice none [(T 95)], none⟩,
            ⟨(some 97), .app none 8 (T 94) (T 96), none⟩,
            ⟨(some 10), .mv (T 97), none⟩]))
          .skip))))
      (.reg [⟨(some 63), .mv (T 11), none⟩,
        ⟨(some 64), .bin .add (T 63) (C (1)), none⟩,
        ⟨(some 11), .mv (T 64), none⟩]))))))
  (.seq (.reg [⟨(some 98), .mv (T 9), none⟩,
    ⟨(some 99), .call true n_huff_Writer_Bytes [(T 98)], none⟩,
    ⟨(some 100), .call true n_huff_NewReader [(T 99)], none⟩,
    ⟨(some 13), .mv (T 100), none⟩])
  (.seq (.seq (.reg [⟨(some 14), .mv (C (0)), none⟩])
  (.block 2
    (.loop
      (.seq (.seq (.reg [⟨(some 101), .mv (T 14), none⟩,
        ⟨(some 102), .mv (T 10), none⟩,
        ⟨(some 103), .len false (T 102), none⟩,
        ⟨(some 104), .bin .lss (T 101) (T 103), none⟩])
      (.cond (T 104)
        .skip
        (.exit 2)))
      (.seq (.block 3
        (.seq (.reg [⟨(some 108), .mv (T 7), none⟩,
          ⟨(some 109), .mv (T 13), none⟩,
          ⟨(some 110), .call true n_huff_Tree_Next [(T 108), (T 109)], none⟩,
          ⟨(some 107), .mv (T 110), none⟩,
          ⟨(some 111), .ext (T 107) 0, none⟩,
          ⟨(some 112), .ext (T 107) 1, none⟩,
          ⟨(some 15), .mv (T 111), none⟩,
          ⟨(some 16), .mv (T 112), none⟩])
        (.seq (.reg [⟨(some 113), .mv (T 16), none⟩,
          ⟨(some 114), .bin .neq (T 113) (C (0)), none⟩,
          ⟨(some 115), .mv (T 114), none⟩,
          ⟨(some 116), .mv (T 15), (some (115, false))⟩,
          ⟨(some 117), .mv (T 10), (some (115, false))⟩,
          ⟨(some 118), .mv (T 14), (some (115, false))⟩,
          ⟨(some 119), .iaddr none (T 117) (T 118), (some (115, false))⟩,
          ⟨(some 120), .load none (T 119), (some (115, false))⟩,
          ⟨(some 121), .bin .neq (T 116) (T 120), (some (115, false))⟩,
          ⟨(some 122), .pick (T 115) (.const (.bool true)) (T 121), none⟩])
        (.cond (T 122)
          (.seq (.reg [⟨(some 4), .mv (.const (.bool false)), none⟩])
          .ret)
          .skip))))
      (.reg [⟨(some 105), .mv (T 14), none⟩,
        ⟨(some 106), .bin .add (T 105) (C (1)), none⟩,
        ⟨(some 14), .mv (T 106), none⟩]))))))
  (.seq (.reg [⟨(some 123), .mv (T 13), none⟩,
    ⟨(some 124), .call true n_huff_Reader_At [(T 123)], none⟩,
    ⟨(some 125), .mv (T 9), none⟩,
    ⟨(some 126), .call true n_huff_Writer_Len [(T 125)], none⟩,
    ⟨(some 127), .bin .eql (T 124) (T 126), none⟩,
    ⟨(some 4), .mv (T 127), none⟩])
  .ret))))))))))))
theorem e_drayagelaw03_HuffBack : slimC Try.prog 128 (Try.f6.body.getD .skip) = s_drayagelaw03_HuffBack := by kernel_rfl
theorem r_drayagelaw03_HuffBack : slimRes Try.prog Try.f6 = some [.tmp 4] := by kernel_rfl

/-- The slim code of drayage/drayagelaw03.awake. -/
def s_drayagelaw03_awake : SCode :=
  (.seq (.reg [⟨(some 0), .mv (.const (.bool false)), none⟩])
  (.seq (.reg [⟨(some 5), .call true n_huff_NewWriter [], none⟩,
    ⟨(some 1), .mv (T 5), none⟩])
  (.seq (.seq (.reg [⟨(some 6), .mv (T 1), none⟩,
    ⟨(some 7), .isnilp false (T 6), none⟩])
  (.cond (T 7)
    (.seq (.reg [⟨(some 0), .mv (.const (.bool false)), none⟩])
    .ret)
    .skip))
  (.seq (.reg [⟨(some 8), .mv (T 1), none⟩,
    ⟨(some 9), .call true n_huff_Writer_Put [(T 8), (C (1)), (C (1))], none⟩])
  (.seq (.reg [⟨(some 10), .mv (T 1), none⟩,
    ⟨(some 11), .call true n_huff_Writer_Put [(T 10), (C (2)), (C (2))], none⟩])
  (.seq (.reg [⟨(some 12), .mv (T 1), none⟩,
    ⟨(some 13), .call true n_huff_Writer_Put [(T 12), (C (0)), (C (1))], none⟩])
  (.seq (.reg [⟨(some 14), .mv (T 1), none⟩,
    ⟨(some 15), .call true n_huff_Writer_Put [(T 14), (C (9)), (C (4))], none⟩])
  (.seq (.reg [⟨(some 17), .bsl none [(C (2)), (C (1)), (C (3)), (C (3))], none⟩,
    ⟨(some 18), .call true n_huff_Codes [(T 17)], none⟩,
    ⟨(some 16), .mv (T 18), none⟩,
    ⟨(some 19), .ext (T 16) 0, none⟩,
    ⟨(some 20), .ext (T 16) 1, none⟩,
    ⟨(some 2), .mv (T 19), none⟩,
    ⟨(some 3), .mv (T 20), none⟩])
  (.seq (.reg [⟨(some 21), .mv (T 1), none⟩,
    ⟨(some 22), .call true n_huff_Writer_Bytes [(T 21)], none⟩,
    ⟨(some 4), .mv (T 22), none⟩])
  (.seq (.reg [⟨(some 23), .mv (T 3), none⟩,
    ⟨(some 24), .bin .eql (T 23) (C (0)), none⟩,
    ⟨(some 25), .mv (T 24), none⟩,
    ⟨(some 26), .mv (T 4), (some (25, true))⟩,
    ⟨(some 27), .len false (T 26), (some (25, true))⟩,
    ⟨(some 28), .bin .eql (T 27) (C (1)), (some (25, true))⟩,
    ⟨(some 29), .pick (T 25) (T 28) (.const (.bool false)), none⟩,
    ⟨(some 30), .mv (T 29), none⟩,
    ⟨(some 31), .mv (T 4), (some (30, true))⟩,
    ⟨(some 32), .iaddr none (T 31) (C (0)), (some (30, true))⟩,
    ⟨(some 33), .load none (T 32), (some (30, true))⟩,
    ⟨(some 34), .bin .eql (T 33) (.const (.int .u8 (149))), (some (30, true))⟩,
    ⟨(some 35), .pick (T 30) (T 34) (.const (.bool false)), none⟩,
    ⟨(some 36), .mv (T 35), none⟩,
    ⟨(some 37), .mv (T 2), (some (36, true))⟩,
    ⟨(some 38), .len false (T 37), (some (36, true))⟩,
    ⟨(some 39), .bin .eql (T 38) (C (4)), (some (36, true))⟩,
    ⟨(some 40), .pick (T 36) (T 39) (.const (.bool false)), none⟩,
    ⟨(some 41), .mv (T 40), none⟩,
    ⟨(some 42), .mv (T 2), (some (41, true))⟩,
    ⟨(some 43), .iaddr none (T 42) (C (0)), (some (41, true))⟩,
    ⟨(some 44), .load none (T 43), (some (41, true))⟩,
    ⟨(some 45), .bin .eql (T 44) (C (2)), (some (41, true))⟩,
    ⟨(some 46), .pick (T 41) (T 45) (.const (.bool false)), none⟩,
    ⟨(some 47), .mv (T 46), none⟩,
    ⟨(some 48), .mv (T 2), (some (47, true))⟩,
    ⟨(some 49), .iaddr none (T 48) (C (2)), (some (47, true))⟩,
    ⟨(some 50), .load none (T 49), (some (47, true))⟩,
    ⟨(some 51), .bin .eql (T 50) (C (6)), (some (47, true))⟩,
    ⟨(some 52), .pick (T 47) (T 51) (.const (.bool false)), none⟩,
    ⟨(some 53), .mv (T 52), none⟩,
    ⟨(some 54), .mv (T 2), (some (53, true))⟩,
    ⟨(some 55), .iaddr none (T 54) (C (3)), (some (53, true))⟩,
    ⟨(some 56), .load none (T 55), (some (53, true))⟩,
    ⟨(some 57), .bin .eql (T 56) (C (7)), (some (53, true))⟩,
    ⟨(some 58), .pick (T 53) (T 57) (.const (.bool false)), none⟩,
    ⟨(some 0), .mv (T 58), none⟩])
  .ret))))))))))
theorem e_drayagelaw03_awake : slimC Try.prog 59 (Try.f8.body.getD .skip) = s_drayagelaw03_awake := by kernel_rfl
theorem r_drayagelaw03_awake : slimRes Try.prog Try.f8 = some [.tmp 0] := by kernel_rfl

/-- The slim code of drayage/huff.NewReader. -/
def s_huff_NewReader : SCode :=
  (.seq (.reg [⟨(some 2), .mv (.const (.pointer none)), none⟩])
  (.seq (.reg [⟨(some 3), .mv (T 0), none⟩,
    ⟨(some 4), .call true n_bytes_Clone [(T 3)], none⟩,
    ⟨(some 5), .build [(.slice none 0 0), (.int .i64 (0))] [(0, 1, (T 4))], none⟩,
    ⟨(some 6), .box (T 5), none⟩,
    ⟨(some 2), .mv (T 6), none⟩])
  .ret))
theorem e_huff_NewReader : slimC Try.prog 7 (Try.f9.body.getD .skip) = s_huff_NewReader := by kernel_rfl
theorem r_huff_NewReader : slimRes Try.prog Try.f9 = some [.tmp 2] := by kernel_rfl

/-- The slim code of drayage/drayageref03.Bits. -/
def s_drayageref03_Bits : SCode :=
  (.seq (.reg [⟨(some 2), .mv (.const (.slice none 0 0)), none⟩])
  (.seq (.reg [⟨(some 3), .mv (.const (.slice none 0 0)), none⟩])
  (.seq (.seq (.reg [⟨(some 4), .mv (C (0)), none⟩])
  (.block 0
    (.loop
      (.seq (.seq (.reg [⟨(some 7), .mv (T 4), none⟩,
        ⟨(some 8), .mv (T 0), none⟩,
        ⟨(some 9), .len false (T 8), none⟩,
        ⟨(some 10), .bin .lss (T 7) (T 9), none⟩])
      (.cond (T 10)
        .skip
        (.exit 0)))
      (.seq (.block 1
        (.seq (.reg [⟨(some 13), .mv (T 0), none⟩,
          ⟨(some 14), .mv (T 4), none⟩,
          ⟨(some 15), .iaddr none (T 13) (T 14), none⟩,
          ⟨(some 16), .load none (T 15), none⟩,
          ⟨(some 17), .ci .i64 (T 16), none⟩,
          ⟨(some 5), .mv (T 17), none⟩])
        (.seq (.reg [⟨(some 6), .mv (C (0)), none⟩])
        (.block 2
          (.loop
            (.seq (.seq (.reg [⟨(some 18), .mv (T 6), none⟩,
              ⟨(some 19), .bin .lss (T 18) (C (8)), none⟩])
            (.cond (T 19)
              .skip
              (.exit 2)))
            (.seq (.block 3
              (.seq (.reg [⟨(some 22), .mv (T 3), none⟩,
                ⟨(some 23), .mv (T 5), none⟩,
                ⟨(some 24), .bin .rem (T 23) (C (2)), none⟩,
                ⟨(some 25), .bslice none [(T 24)], none⟩,
                ⟨(some 26), .app none 8 (T 22) (T 25), none⟩,
                ⟨(some 3), .mv (T 26), none⟩])
              (.reg [⟨(some 27), .mv (T 5), none⟩,
                ⟨(some 28), .bin .quo (T 27) (C (2)), none⟩,
                ⟨(some 5), .mv (T 28), none⟩])))
            (.reg [⟨(some 20), .mv (T 6), none⟩,
              ⟨(some 21), .bin .add (T 20) (C (1)), none⟩,
              ⟨(some 6), .mv (T 21), none⟩]))))))))
      (.reg [⟨(some 11), .mv (T 4), none⟩,
        ⟨(some 12), .bin .add (T 11) (C (1)), none⟩,
        ⟨(some 4), .mv (T 12), none⟩]))))))
  (.seq (.reg [⟨(some 29), .mv (T 3), none⟩,
    ⟨(some 2), .mv (T 29), none⟩])
  .ret))))
theorem e_drayageref03_Bits : slimC Try.prog 30 (Try.f10.body.getD .skip) = s_drayageref03_Bits := by kernel_rfl
theorem r_drayageref03_Bits : slimRes Try.prog Try.f10 = some [.tmp 2] := by kernel_rfl

/-- The slim code of (*drayage/huff.Reader).Take. -/
def s_huff_Reader_Take : SCode :=
  (.seq (.reg [⟨(some 4), .mv (C (0)), none⟩,
    ⟨(some 5), .mv (.const (.bool false)), none⟩])
  (.seq (.seq (.reg [⟨(some 8), .mv (T 1), none⟩,
    ⟨(some 9), .bin .lss (T 8) (C (0)), none⟩,
    ⟨(some 10), .mv (T 9), none⟩,
    ⟨(some 11), .mv (T 1), (some (10, false))⟩,
    ⟨(some 12), .bin .gtr (T 11) (C (24)), (some (10, false))⟩,
    ⟨(some 13), .pick (T 10) (.const (.bool true)) (T 12), none⟩,
    ⟨(some 14), .mv (T 13), none⟩,
    ⟨(some 15), .mv (T 1), (some (14, false))⟩,
    ⟨(some 16), .mv (T 0), (some (14, false))⟩,
    ⟨(some 17), .call true n_huff_Reader_left [(T 16)], (some (14, false))⟩,
    ⟨(some 18), .bin .gtr (T 15) (T 17), (some (14, false))⟩,
    ⟨(some 19), .pick (T 14) (.const (.bool true)) (T 18), none⟩])
  (.cond (T 19)
    (.seq (.reg [⟨(some 4), .mv (C (0)), none⟩,
      ⟨(some 5), .mv (.const (.bool false)), none⟩])
    .ret)
    .skip))
  (.seq (.reg [⟨(some 6), .mv (C (0)), none⟩])
  (.seq (.seq (.reg [⟨(some 20), .mv (T 1), none⟩,
    ⟨(some 21), .mv (C (0)), none⟩])
  (.block 0
    (.loop
      (.seq (.reg [⟨(some 22), .bin .lss (T 21) (T 20), none⟩])
      (.seq (.cond (T 22)
        .skip
        (.exit 0))
      (.seq (.block 1
        (.seq (.reg [⟨(some 23), .mv (T 21), none⟩,
          ⟨(some 7), .mv (T 23), none⟩])
        (.reg [⟨(some 24), .mv (T 6), none⟩,
          ⟨(some 25), .mv (T 0), none⟩,
          ⟨(some 26), .call true n_huff_Reader_bit [(T 25)], none⟩,
          ⟨(some 27), .mv (T 7), none⟩,
          ⟨(some 28), .bin .shl (T 26) (T 27), none⟩,
          ⟨(some 29), .bin .or (T 24) (T 28), none⟩,
          ⟨(some 6), .mv (T 29), none⟩])))
      (.reg [⟨(some 30), .bin .add (T 21) (C (1)), none⟩,
        ⟨(some 21), .mv (T 30), none⟩])))))))
  (.seq (.reg [⟨(some 31), .mv (T 6), none⟩,
    ⟨(some 4), .mv (T 31), none⟩,
    ⟨(some 5), .mv (.const (.bool true)), none⟩])
  .ret)))))
theorem e_huff_Reader_Take : slimC Try.prog 32 (Try.f11.body.getD .skip) = s_huff_Reader_Take := by kernel_rfl
theorem r_huff_Reader_Take : slimRes Try.prog Try.f11 = some [.tmp 4, .tmp 5] := by kernel_rfl

/-- The slim code of drayage/drayageref03.Number. -/
def s_drayageref03_Number : SCode :=
  (.seq (.reg [⟨(some 2), .mv (C (0)), none⟩])
  (.seq (.reg [⟨(some 3), .mv (C (0)), none⟩])
  (.seq (.seq (.reg [⟨(some 5), .mv (T 0), none⟩,
    ⟨(some 6), .len false (T 5), none⟩,
    ⟨(some 7), .bin .sub (T 6) (C (1)), none⟩,
    ⟨(some 4), .mv (T 7), none⟩])
  (.block 0
    (.loop
      (.seq (.seq (.reg [⟨(some 8), .mv (T 4), none⟩,
        ⟨(some 9), .bin .geq (T 8) (C (0)), none⟩])
      (.cond (T 9)
        .skip
        (.exit 0)))
      (.seq (.block 1
        (.reg [⟨(some 12), .mv (T 3), none⟩,
          ⟨(some 13), .bin .mul (C (2)) (T 12), none⟩,
          ⟨(some 14), .mv (T 0), none⟩,
          ⟨(some 15), .mv (T 4), none⟩,
          ⟨(some 16), .iaddr none (T 14) (T 15), none⟩,
          ⟨(some 17), .load none (T 16), none⟩,
          ⟨(some 18), .bin .add (T 13) (T 17), none⟩,
          ⟨(some 3), .mv (T 18), none⟩]))
      (.reg [⟨(some 10), .mv (T 4), none⟩,
        ⟨(some 11), .bin .sub (T 10) (C (1)), none⟩,
        ⟨(some 4), .mv (T 11), none⟩]))))))
  (.seq (.reg [⟨(some 19), .mv (T 3), none⟩,
    ⟨(some 2), .mv (T 19), none⟩])
  .ret))))
theorem e_drayageref03_Number : slimC Try.prog 20 (Try.f12.body.getD .skip) = s_drayageref03_Number := by kernel_rfl
theorem r_drayageref03_Number : slimRes Try.prog Try.f12 = some [.tmp 2] := by kernel_rfl

/-- The slim code of (*drayage/huff.Reader).Align. -/
def s_huff_Reader_Align : SCode :=
  (.reg [⟨(some 2), .mv (T 0), none⟩,
    ⟨(some 3), .mv (T 0), none⟩,
    ⟨(some 4), .nilc (T 3), none⟩,
    ⟨(some 5), .faddr 1 (T 4), none⟩,
    ⟨(some 6), .load none (T 5), none⟩,
    ⟨(some 7), .bin .add (T 6) (C (8)), none⟩,
    ⟨(some 8), .bin .sub (T 7) (C (1)), none⟩,
    ⟨(some 9), .bin .quo (T 8) (C (8)), none⟩,
    ⟨(some 10), .bin .mul (T 9) (C (8)), none⟩,
    ⟨(some 11), .nilc (T 2), none⟩,
    ⟨(some 12), .faddr 1 (T 11), none⟩,
    ⟨none, .store none (T 12) (T 10), none⟩])
theorem e_huff_Reader_Align : slimC Try.prog 13 (Try.f13.body.getD .skip) = s_huff_Reader_Align := by kernel_rfl
theorem r_huff_Reader_Align : slimRes Try.prog Try.f13 = some [] := by kernel_rfl

/-- The slim code of (*drayage/huff.Reader).Bytes. -/
def s_huff_Reader_Bytes : SCode :=
  (.seq (.reg [⟨(some 4), .mv (.const (.slice none 0 0)), none⟩,
    ⟨(some 5), .mv (.const (.bool false)), none⟩])
  (.seq (.reg [⟨(some 7), .mv (T 0), none⟩,
    ⟨(some 8), .call true n_huff_Reader_Align [(T 7)], none⟩])
  (.seq (.seq (.reg [⟨(some 9), .mv (T 1), none⟩,
    ⟨(some 10), .bin .lss (T 9) (C (0)), none⟩,
    ⟨(some 11), .mv (T 10), none⟩,
    ⟨(some 12), .mv (T 1), (some (11, false))⟩,
    ⟨(some 13), .mv (T 0), (some (11, false))⟩,
    ⟨(some 14), .call true n_huff_Reader_left [(T 13)], (some (11, false))⟩,
    ⟨(some 15), .bin .quo (T 14) (C (8)), (some (11, false))⟩,
    ⟨(some 16), .bin .gtr (T 12) (T 15), (some (11, false))⟩,
    ⟨(some 17), .pick (T 11) (.const (.bool true)) (T 16), none⟩])
  (.cond (T 17)
    (.seq (.reg [⟨(some 4), .mv (.const (.slice none 0 0)), none⟩,
      ⟨(some 5), .mv (.const (.bool false)), none⟩])
    .ret)
    .skip))
  (.seq (.reg [⟨(some 18), .mv (T 0), none⟩,
    ⟨(some 19), .nilc (T 18), none⟩,
    ⟨(some 20), .faddr 1 (T 19), none⟩,
    ⟨(some 21), .load none (T 20), none⟩,
    ⟨(some 22), .bin .quo (T 21) (C (8)), none⟩,
    ⟨(some 6), .mv (T 22), none⟩])
  (.seq (.reg [⟨(some 23), .mv (T 0), none⟩,
    ⟨(some 24), .nilc (T 23), none⟩,
    ⟨(some 25), .faddr 1 (T 24), none⟩,
    ⟨(some 26), .load none (T 25), none⟩,
    ⟨(some 27), .mv (T 1), none⟩,
    ⟨(some 28), .bin .mul (T 27) (C (8)), none⟩,
    ⟨(some 29), .bin .add (T 26) (T 28), none⟩,
    ⟨(some 30), .nilc (T 23), none⟩,
    ⟨(some 31), .faddr 1 (T 30), none⟩,
    ⟨none, .store none (T 31) (T 29), none⟩])
  (.seq (.reg [⟨(some 32), .mv (T 0), none⟩,
    ⟨(some 33), .nilc (T 32), none⟩,
    ⟨(some 34), .faddr 0 (T 33), none⟩,
    ⟨(some 35), .load none (T 34), none⟩,
    ⟨(some 36), .mv (T 6), none⟩,
    ⟨(some 37), .mv (T 6), none⟩,
    ⟨(some 38), .mv (T 1), none⟩,
    ⟨(some 39), .bin .add (T 37) (T 38), none⟩,
    ⟨(some 40), .sl none (T 35) (some (T 36)) (some (T 39)), none⟩,
    ⟨(some 41), .call true n_bytes_Clone [(T 40)], none⟩,
    ⟨(some 4), .mv (T 41), none⟩,
    ⟨(some 5), .mv (.const (.bool true)), none⟩])
  .ret))))))
theorem e_huff_Reader_Bytes : slimC Try.prog 42 (Try.f14.body.getD .skip) = s_huff_Reader_Bytes := by kernel_rfl
theorem r_huff_Reader_Bytes : slimRes Try.prog Try.f14 = some [.tmp 4, .tmp 5] := by kernel_rfl

/-- The slim code of (*drayage/huff.Reader).At. -/
def s_huff_Reader_At : SCode :=
  (.seq (.reg [⟨(some 2), .mv (C (0)), none⟩])
  (.seq (.reg [⟨(some 3), .mv (T 0), none⟩,
    ⟨(some 4), .nilc (T 3), none⟩,
    ⟨(some 5), .faddr 1 (T 4), none⟩,
    ⟨(some 6), .load none (T 5), none⟩,
    ⟨(some 2), .mv (T 6), none⟩])
  .ret))
theorem e_huff_Reader_At : slimC Try.prog 7 (Try.f15.body.getD .skip) = s_huff_Reader_At := by kernel_rfl
theorem r_huff_Reader_At : slimRes Try.prog Try.f15 = some [.tmp 2] := by kernel_rfl

/-- The slim code of drayage/huff.Codes. -/
def s_huff_Codes : SCode :=
  (.seq (.reg [⟨(some 2), .mv (.const (.slice none 0 0)), none⟩,
    ⟨(some 3), .mv (C (0)), none⟩])
  (.seq (.seq (.reg [⟨(some 9), .mv (T 0), none⟩,
    ⟨(some 10), .call true n_huff_Check [(T 9)], none⟩,
    ⟨(some 4), .mv (T 10), none⟩])
  (.seq (.reg [⟨(some 11), .mv (T 4), none⟩,
    ⟨(some 12), .bin .neq (T 11) (C (0)), none⟩])
  (.cond (T 12)
    (.seq (.reg [⟨(some 13), .mv (T 4), none⟩,
      ⟨(some 2), .mv (.const (.slice none 0 0)), none⟩,
      ⟨(some 3), .mv (T 13), none⟩])
    .ret)
    .skip)))
  (.seq (.reg [⟨(some 14), .mv (T 0), none⟩,
    ⟨(some 15), .call true n_huff_firstRows [(T 14)], none⟩,
    ⟨(some 5), .alloc (List.replicate 16 (.int .i64 (0))), none⟩,
    ⟨none, .store (some 16) (T 5) (T 15), none⟩])
  (.seq (.reg [⟨(some 16), .mv (T 0), none⟩,
    ⟨(some 17), .len false (T 16), none⟩,
    ⟨(some 18), .mks none 8 [(.int .i64 (0))] (T 17) (T 17), none⟩,
    ⟨(some 6), .mv (T 18), none⟩])
  (.seq (.seq (.reg [⟨(some 19), .mv (T 0), none⟩,
    ⟨(some 20), .len false (T 19), none⟩,
    ⟨(some 21), .mv (C (0)), none⟩])
  (.block 0
    (.loop
      (.seq (.reg [⟨(some 22), .bin .lss (T 21) (T 20), none⟩])
      (.seq (.cond (T 22)
        .skip
        (.exit 0))
      (.seq (.block 1
        (.seq (.reg [⟨(some 23), .mv (T 21), none⟩,
          ⟨(some 24), .iaddr none (T 19) (T 21), none⟩,
          ⟨(some 25), .load none (T 24), none⟩,
          ⟨(some 7), .mv (T 23), none⟩,
          ⟨(some 8), .mv (T 25), none⟩])
        (.seq (.reg [⟨(some 26), .mv (T 8), none⟩,
          ⟨(some 27), .bin .gtr (T 26) (C (0)), none⟩])
        (.cond (T 27)
          (.seq (.reg [⟨(some 28), .mv (T 6), none⟩,
            ⟨(some 29), .mv (T 7), none⟩,
            ⟨(some 30), .mv (T 8), none⟩,
            ⟨(some 31), .iaddrA 16 none (T 5) (T 30), none⟩,
            ⟨(some 32), .load none (T 31), none⟩,
            ⟨(some 33), .iaddr none (T 28) (T 29), none⟩,
            ⟨none, .store none (T 33) (T 32), none⟩])
          (.reg [⟨(some 34), .mv (T 8), none⟩,
            ⟨(some 35), .iaddrA 16 none (T 5) (T 34), none⟩,
            ⟨(some 36), .load none (T 35), none⟩,
            ⟨(some 37), .bin .add (T 36) (C (1)), none⟩,
            ⟨(some 38), .iaddrA 16 none (T 5) (T 34), none⟩,
            ⟨none, .store none (T 38) (T 37), none⟩]))
          .skip))))
      (.reg [⟨(some 39), .bin .add (T 21) (C (1)), none⟩,
        ⟨(some 21), .mv (T 39), none⟩])))))))
  (.seq (.reg [⟨(some 40), .mv (T 6), none⟩,
    ⟨(some 2), .mv (T 40), none⟩,
    ⟨(some 3), .mv (C (0)), none⟩])
  .ret))))))
theorem e_huff_Codes : slimC Try.prog 41 (Try.f16.body.getD .skip) = s_huff_Codes := by kernel_rfl
theorem r_huff_Codes : slimRes Try.prog Try.f16 = some [.tmp 2, .tmp 3] := by kernel_rfl

/-- The slim code of drayage/drayageref03.Codes. -/
def s_drayageref03_Codes : SCode :=
  (.seq (.reg [⟨(some 2), .mv (.const (.slice none 0 0)), none⟩,
    ⟨(some 3), .mv (C (0)), none⟩])
  (.seq (.seq (.reg [⟨(some 9), .mv (T 0), none⟩,
    ⟨(some 10), .call true n_drayageref03_Check [(T 9)], none⟩,
    ⟨(some 4), .mv (T 10), none⟩])
  (.seq (.reg [⟨(some 11), .mv (T 4), none⟩,
    ⟨(some 12), .bin .neq (T 11) (C (0)), none⟩])
  (.cond (T 12)
    (.seq (.reg [⟨(some 13), .mv (T 4), none⟩,
      ⟨(some 2), .mv (.const (.slice none 0 0)), none⟩,
      ⟨(some 3), .mv (T 13), none⟩])
    .ret)
    .skip)))
  (.seq (.reg [⟨(some 5), .mv (.const (.slice none 0 0)), none⟩])
  (.seq (.reg [⟨(some 14), .mv (T 5), none⟩,
    ⟨(some 15), .mv (T 0), none⟩,
    ⟨(some 16), .app none 8 (T 14) (T 15), none⟩,
    ⟨(some 5), .mv (T 16), none⟩])
  (.seq (.reg [⟨(some 6), .mv (C (0)), none⟩])
  (.seq (.seq (.reg [⟨(some 7), .mv (C (0)), none⟩])
  (.block 0
    (.loop
      (.seq (.seq (.reg [⟨(some 17), .mv (T 7), none⟩,
        ⟨(some 18), .bin .leq (T 17) (C (15)), none⟩])
      (.cond (T 18)
        .skip
        (.exit 0)))
      (.seq (.block 1
        (.seq (.seq (.reg [⟨(some 8), .mv (C (0)), none⟩])
        (.block 2
          (.loop
            (.seq (.seq (.reg [⟨(some 21), .mv (T 8), none⟩,
              ⟨(some 22), .mv (T 0), none⟩,
              ⟨(some 23), .len false (T 22), none⟩,
              ⟨(some 24), .bin .lss (T 21) (T 23), none⟩])
            (.cond (T 24)
              .skip
              (.exit 2)))
            (.seq (.block 3
              (.seq (.seq (.reg [⟨(some 27), .mv (T 0), none⟩,
                ⟨(some 28), .mv (T 8), none⟩,
                ⟨(some 29), .iaddr none (T 27) (T 28), none⟩,
                ⟨(some 30), .load none (T 29), none⟩,
                ⟨(some 31), .mv (T 7), none⟩,
                ⟨(some 32), .bin .neq (T 30) (T 31), none⟩])
              (.cond (T 32)
                (.exit 3)
                .skip))
              (.seq (.reg [⟨(some 33), .mv (T 5), none⟩,
                ⟨(some 34), .mv (T 8), none⟩,
                ⟨(some 35), .mv (T 6), none⟩,
                ⟨(some 36), .iaddr none (T 33) (T 34), none⟩,
                ⟨none, .store none (T 36) (T 35), none⟩])
              (.seq (.reg [⟨(some 37), .mv (T 7), none⟩,
                ⟨(some 38), .bin .gtr (T 37) (C (0)), none⟩])
              (.cond (T 38)
                (.reg [⟨(some 39), .mv (T 6), none⟩,
                  ⟨(some 40), .bin .add (T 39) (C (1)), none⟩,
                  ⟨(some 6), .mv (T 40), none⟩])
                (.reg [⟨(some 41), .mv (T 5), none⟩,
                  ⟨(some 42), .mv (T 8), none⟩,
                  ⟨(some 43), .iaddr none (T 41) (T 42), none⟩,
                  ⟨none, .store none (T 43) (C (0)), none⟩]))))))
            (.reg [⟨(some 25), .mv (T 8), none⟩,
              ⟨(some 26), .bin .add (T 25) (C (1)), none⟩,
              ⟨(some 8), .mv (T 26), none⟩]))))))
        (.reg [⟨(some 44), .mv (T 6), none⟩,
          ⟨(some 45), .bin .mul (C (2)) (T 44), none⟩,
          ⟨(some 6), .mv (T 45), none⟩])))
      (.reg [⟨(some 19), .mv (T 7), none⟩,
        ⟨(some 20), .bin .add (T 19) (C (1)), none⟩,
        ⟨(some 7), .mv (T 20), none⟩]))))))
  (.seq (.reg [⟨(some 46), .mv (T 5), none⟩,
    ⟨(some 2), .mv (T 46), none⟩,
    ⟨(some 3), .mv (C (0)), none⟩])
  .ret)))))))
theorem e_drayageref03_Codes : slimC Try.prog 47 (Try.f17.body.getD .skip) = s_drayageref03_Codes := by kernel_rfl
theorem r_drayageref03_Codes : slimRes Try.prog Try.f17 = some [.tmp 2, .tmp 3] := by kernel_rfl

/-- The slim code of drayage/huff.Check. -/
def s_huff_Check : SCode :=
  (.seq (.reg [⟨(some 2), .mv (C (0)), none⟩])
  (.seq (.seq (.reg [⟨(some 5), .mv (T 0), none⟩,
    ⟨(some 6), .len false (T 5), none⟩,
    ⟨(some 7), .bin .gtr (T 6) (C (320)), none⟩])
  (.cond (T 7)
    (.seq (.reg [⟨(some 2), .mv (C (4)), none⟩])
    .ret)
    .skip))
  (.seq (.seq (.reg [⟨(some 8), .mv (T 0), none⟩,
    ⟨(some 9), .len false (T 8), none⟩,
    ⟨(some 10), .mv (C (0)), none⟩])
  (.block 0
    (.loop
      (.seq (.reg [⟨(some 11), .bin .lss (T 10) (T 9), none⟩])
      (.seq (.cond (T 11)
        .skip
        (.exit 0))
      (.seq (.block 1
        (.seq (.reg [⟨(some 12), .iaddr none (T 8) (T 10), none⟩,
          ⟨(some 13), .load none (T 12), none⟩,
          ⟨(some 4), .mv (T 13), none⟩])
        (.seq (.reg [⟨(some 14), .mv (T 4), none⟩,
          ⟨(some 15), .bin .lss (T 14) (C (0)), none⟩,
          ⟨(some 16), .mv (T 15), none⟩,
          ⟨(some 17), .mv (T 4), (some (16, false))⟩,
          ⟨(some 18), .bin .gtr (T 17) (C (15)), (some (16, false))⟩,
          ⟨(some 19), .pick (T 16) (.const (.bool true)) (T 18), none⟩])
        (.cond (T 19)
          (.seq (.reg [⟨(some 2), .mv (C (1)), none⟩])
          .ret)
          .skip))))
      (.reg [⟨(some 20), .bin .add (T 10) (C (1)), none⟩,
        ⟨(some 10), .mv (T 20), none⟩])))))))
  (.seq (.seq (.reg [⟨(some 21), .mv (T 0), none⟩,
    ⟨(some 22), .call true n_huff_taken [(T 21)], none⟩,
    ⟨(some 23), .bin .gtr (T 22) (C (32768)), none⟩])
  (.cond (T 23)
    (.seq (.reg [⟨(some 2), .mv (C (3)), none⟩])
    .ret)
    .skip))
  (.seq (.reg [⟨(some 2), .mv (C (0)), none⟩])
  .ret)))))
theorem e_huff_Check : slimC Try.prog 24 (Try.f18.body.getD .skip) = s_huff_Check := by kernel_rfl
theorem r_huff_Check : slimRes Try.prog Try.f18 = some [.tmp 2] := by kernel_rfl

/-- The slim code of drayage/huff.Full. -/
def s_huff_Full : SCode :=
  (.seq (.reg [⟨(some 2), .mv (.const (.bool false)), none⟩])
  (.seq (.reg [⟨(some 3), .mv (T 0), none⟩,
    ⟨(some 4), .call true n_huff_Check [(T 3)], none⟩,
    ⟨(some 5), .bin .eql (T 4) (C (0)), none⟩,
    ⟨(some 6), .mv (T 5), none⟩,
    ⟨(some 7), .mv (T 0), (some (6, true))⟩,
    ⟨(some 8), .call true n_huff_taken [(T 7)], (some (6, true))⟩,
    ⟨(some 9), .bin .eql (T 8) (C (32768)), (some (6, true))⟩,
    ⟨(some 10), .pick (T 6) (T 9) (.const (.bool false)), none⟩,
    ⟨(some 2), .mv (T 10), none⟩])
  .ret))
theorem e_huff_Full : slimC Try.prog 11 (Try.f19.body.getD .skip) = s_huff_Full := by kernel_rfl
theorem r_huff_Full : slimRes Try.prog Try.f19 = some [.tmp 2] := by kernel_rfl

/-- The slim code of drayage/drayageref03.Full. -/
def s_drayageref03_Full : SCode :=
  (.seq (.reg [⟨(some 2), .mv (.const (.bool false)), none⟩])
  (.seq (.reg [⟨(some 3), .mv (T 0), none⟩,
    ⟨(some 4), .call true n_drayageref03_Check [(T 3)], none⟩,
    ⟨(some 5), .bin .eql (T 4) (C (0)), none⟩,
    ⟨(some 6), .mv (T 5), none⟩,
    ⟨(some 7), .mv (T 0), (some (6, true))⟩,
    ⟨(some 8), .call true n_drayageref03_share [(T 7)], (some (6, true))⟩,
    ⟨(some 9), .bin .eql (T 8) (C (32768)), (some (6, true))⟩,
    ⟨(some 10), .pick (T 6) (T 9) (.const (.bool false)), none⟩,
    ⟨(some 2), .mv (T 10), none⟩])
  .ret))
theorem e_drayageref03_Full : slimC Try.prog 11 (Try.f20.body.getD .skip) = s_drayageref03_Full := by kernel_rfl
theorem r_drayageref03_Full : slimRes Try.prog Try.f20 = some [.tmp 2] := by kernel_rfl

/-- The slim code of drayage/huff.NewTree. -/
def s_huff_NewTree : SCode :=
  (.seq (.reg [⟨(some 2), .mv (.const (.pointer none)), none⟩,
    ⟨(some 3), .mv (C (0)), none⟩])
  (.seq (.seq (.reg [⟨(some 8), .mv (T 0), none⟩,
    ⟨(some 9), .call true n_huff_Check [(T 8)], none⟩,
    ⟨(some 4), .mv (T 9), none⟩])
  (.seq (.reg [⟨(some 10), .mv (T 4), none⟩,
    ⟨(some 11), .bin .neq (T 10) (C (0)), none⟩])
  (.cond (T 11)
    (.seq (.reg [⟨(some 12), .mv (T 4), none⟩,
      ⟨(some 2), .mv (.const (.pointer none)), none⟩,
      ⟨(some 3), .mv (T 12), none⟩])
    .ret)
    .skip)))
  (.seq (.reg [⟨(some 13), .mv (T 0), none⟩,
    ⟨(some 14), .call true n_huff_firstRows [(T 13)], none⟩,
    ⟨(some 15), .mv (T 0), none⟩,
    ⟨(some 16), .call true n_huff_taken [(T 15)], none⟩,
    ⟨(some 17), .build [(.int .i64 (0)), (.int .i64 (0)), (.int .i64 (0)), (.int .i64 (0)), (.int .i64 (0)), (.int .i64 (0)), (.int .i64 (0)), (.int .i64 (0)), (.int .i64 (0)), (.int .i64 (0)), (.int .i64 (0)), (.int .i64 (0)), (.int .i64 (0)), (.int .i64 (0)), (.int .i64 (0)), (.int .i64 (0)), (.slice none 0 0), (.slice none 0 0), (.slice none 0 0), (.slice none 0 0), (.slice none 0 0), (.slice none 0 0), (.slice none 0 0), (.slice none 0 0), (.slice none 0 0), (.slice none 0 0), (.slice none 0 0), (.slice none 0 0), (.slice none 0 0), (.slice none 0 0), (.slice none 0 0), (.slice none 0 0), (.int .i64 (0))] [(0, 16, (T 14)), (32, 1, (T 16))], none⟩,
    ⟨(some 18), .box (T 17), none⟩,
    ⟨(some 5), .mv (T 18), none⟩])
  (.seq (.seq (.reg [⟨(some 19), .mv (T 0), none⟩,
    ⟨(some 20), .len false (T 19), none⟩,
    ⟨(some 21), .mv (C (0)), none⟩])
  (.block 0
    (.loop
      (.seq (.reg [⟨(some 22), .bin .lss (T 21) (T 20), none⟩])
      (.seq (.cond (T 22)
        .skip
        (.exit 0))
      (.seq (.block 1
        (.seq (.reg [⟨(some 23), .mv (T 21), none⟩,
          ⟨(some 24), .iaddr none (T 19) (T 21), none⟩,
          ⟨(some 25), .load none (T 24), none⟩,
          ⟨(some 6), .mv (T 23), none⟩,
          ⟨(some 7), .mv (T 25), none⟩])
        (.seq (.reg [⟨(some 26), .mv (T 7), none⟩,
          ⟨(some 27), .bin .gtr (T 26) (C (0)), none⟩])
        (.cond (T 27)
          (.reg [⟨(some 28), .mv (T 5), none⟩,
            ⟨(some 29), .mv (T 7), none⟩,
            ⟨(some 30), .mv (T 5), none⟩,
            ⟨(some 31), .mv (T 7), none⟩,
            ⟨(some 32), .nilc (T 30), none⟩,
            ⟨(some 33), .faddr 16 (T 32), none⟩,
            ⟨(some 34), .iaddrA 16 none (T 33) (T 31), none⟩,
            ⟨(some 35), .load none (T 34), none⟩,
            ⟨(some 36), .mv (T 6), none⟩,
            ⟨(some 37), .bslice none [(T 36)], none⟩,
            ⟨(some 38), .app none 8 (T 35) (T 37), none⟩,
            ⟨(some 39), .nilc (T 28), none⟩,
            ⟨(some 40), .faddr 16 (T 39), none⟩,
            ⟨(some 41), .iaddrA 16 none (T 40) (T 29), none⟩,
            ⟨none, .store none (T 41) (T 38), none⟩])
          .skip))))
      (.reg [⟨(some 42), .bin .add (T 21) (C (1)), none⟩,
        ⟨(some 21), .mv (T 42), none⟩])))))))
  (.seq (.reg [⟨(some 43), .mv (T 5), none⟩,
    ⟨(some 2), .mv (T 43), none⟩,
    ⟨(some 3), .mv (C (0)), none⟩])
  .ret)))))
theorem e_huff_NewTree : slimC Try.prog 44 (Try.f21.body.getD .skip) = s_huff_NewTree := by kernel_rfl
theorem r_huff_NewTree : slimRes Try.prog Try.f21 = some [.tmp 2, .tmp 3] := by kernel_rfl

/-- The slim code of (*drayage/huff.Tree).Next. -/
def s_huff_Tree_Next : SCode :=
  (.seq (.reg [⟨(some 4), .mv (C (0)), none⟩,
    ⟨(some 5), .mv (C (0)), none⟩])
  (.seq (.reg [⟨(some 6), .mv (C (0)), none⟩])
  (.seq (.seq (.reg [⟨(some 10), .mv (C (0)), none⟩])
  (.block 0
    (.loop
      (.seq (.reg [⟨(some 11), .bin .lss (T 10) (C (15)), none⟩])
      (.seq (.cond (T 11)
        .skip
        (.exit 0))
      (.seq (.block 1
        (.seq (.reg [⟨(some 12), .mv (T 10), none⟩,
          ⟨(some 7), .mv (T 12), none⟩])
        (.seq (.seq (.reg [⟨(some 13), .mv (T 1), none⟩,
          ⟨(some 14), .call true n_huff_Reader_left [(T 13)], none⟩,
          ⟨(some 15), .bin .eql (T 14) (C (0)), none⟩])
        (.cond (T 15)
          (.seq (.reg [⟨(some 4), .mv (C (0)), none⟩,
            ⟨(some 5), .mv (C (2)), none⟩])
          .ret)
          .skip))
        (.seq (.reg [⟨(some 16), .mv (T 6), none⟩,
          ⟨(some 17), .bin .shl (T 16) (.const (.int .u64 (1))), none⟩,
          ⟨(some 18), .mv (T 1), none⟩,
          ⟨(some 19), .call true n_huff_Reader_bit [(T 18)], none⟩,
          ⟨(some 20), .bin .or (T 17) (T 19), none⟩,
          ⟨(some 6), .mv (T 20), none⟩])
        (.seq (.reg [⟨(some 21), .mv (T 7), none⟩,
          ⟨(some 22), .bin .add (T 21) (C (1)), none⟩,
          ⟨(some 8), .mv (T 22), none⟩])
        (.seq (.seq (.reg [⟨(some 23), .mv (T 0), none⟩,
          ⟨(some 24), .mv (T 6), none⟩,
          ⟨(some 25), .mv (T 8), none⟩,
          ⟨(some 26), .call true n_huff_Tree_begins [(T 23), (T 24), (T 25)], none⟩,
          ⟨(some 27), .un .not (T 26), none⟩])
        (.cond (T 27)
          (.exit 0)
          .skip))
        (.seq (.reg [⟨(some 28), .mv (T 6), none⟩,
          ⟨(some 29), .mv (T 0), none⟩,
          ⟨(some 30), .mv (T 8), none⟩,
          ⟨(some 31), .nilc (T 29), none⟩,
          ⟨(some 32), .faddr 0 (T 31), none⟩,
          ⟨(some 33), .iaddrA 16 none (T 32) (T 30), none⟩,
          ⟨(some 34), .load none (T 33), none⟩,
          ⟨(some 35), .bin .sub (T 28) (T 34), none⟩,
          ⟨(some 9), .mv (T 35), none⟩])
        (.seq (.reg [⟨(some 36), .mv (T 9), none⟩,
          ⟨(some 37), .mv (T 0), none⟩,
          ⟨(some 38), .mv (T 8), none⟩,
          ⟨(some 39), .nilc (T 37), none⟩,
          ⟨(some 40), .faddr 16 (T 39), none⟩,
          ⟨(some 41), .iaddrA 16 none (T 40) (T 38), none⟩,
          ⟨(some 42), .load none (T 41), none⟩,
          ⟨(some 43), .len false (T 42), none⟩,
          ⟨(some 44), .bin .lss (T 36) (T 43), none⟩])
        (.cond (T 44)
          (.seq (.reg [⟨(some 45), .mv (T 0), none⟩,
            ⟨(some 46), .mv (T 8), none⟩,
            ⟨(some 47), .nilc (T 45), none⟩,
            ⟨(some 48), .faddr 16 (T 47), none⟩,
            ⟨(some 49), .iaddrA 16 none (T 48) (T 46), none⟩,
            ⟨(some 50), .load none (T 49), none⟩,
            ⟨(some 51), .mv (T 9), none⟩,
            ⟨(some 52), .iaddr none (T 50) (T 51), none⟩,
            ⟨(some 53), .load none (T 52), none⟩,
            ⟨(some 4), .mv (T 53), none⟩,
            ⟨(some 5), .mv (C (0)), none⟩])
          .ret)
          .skip)))))))))
      (.reg [⟨(some 54), .bin .add (T 10) (C (1)), none⟩,
        ⟨(some 10), .mv (T 54), none⟩])))))))
  (.seq (.reg [⟨(some 4), .mv (C (0)), none⟩,
    ⟨(some 5), .mv (C (3)), none⟩])
  .ret))))
theorem e_huff_Tree_Next : slimC Try.prog 55 (Try.f22.body.getD .skip) = s_huff_Tree_Next := by kernel_rfl
theorem r_huff_Tree_Next : slimRes Try.prog Try.f22 = some [.tmp 4, .tmp 5] := by kernel_rfl

/-- The slim code of drayage/drayageref03.Next. -/
def s_drayageref03_Next : SCode :=
  (.seq (.reg [⟨(some 6), .alloc [(.int .i64 (0)), (.slice none 0 0), (.int .i64 (0))], none⟩])
  (.seq (.seq (.reg [⟨(some 7), .mv (C (1)), none⟩])
  (.block 0
    (.loop
      (.seq (.seq (.reg [⟨(some 11), .mv (T 7), none⟩,
        ⟨(some 12), .bin .leq (T 11) (C (15)), none⟩])
      (.cond (T 12)
        .skip
        (.exit 0)))
      (.seq (.block 1
        (.seq (.seq (.reg [⟨(some 15), .mv (T 7), none⟩,
          ⟨(some 16), .mv (T 2), none⟩,
          ⟨(some 17), .len false (T 16), none⟩,
          ⟨(some 18), .bin .gtr (T 15) (T 17), none⟩])
        (.cond (T 18)
          (.seq (.reg [⟨(some 19), .build [(.int .i64 (0)), (.slice none 0 0), (.int .i64 (0))] [(2, 1, (C (2)))], none⟩,
            ⟨none, .store (some 3) (T 6) (T 19), none⟩])
          .ret)
          .skip))
        (.seq (.reg [⟨(some 8), .mv (.const (.bool false)), none⟩])
        (.seq (.seq (.reg [⟨(some 9), .mv (C (0)), none⟩])
        (.block 2
          (.loop
            (.seq (.seq (.reg [⟨(some 20), .mv (T 9), none⟩,
              ⟨(some 21), .mv (T 0), none⟩,
              ⟨(some 22), .len false (T 21), none⟩,
              ⟨(some 23), .bin .lss (T 20) (T 22), none⟩])
            (.cond (T 23)
              .skip
              (.exit 2)))
            (.seq (.block 3
              (.seq (.seq (.reg [⟨(some 26), .mv (T 0), none⟩,
                ⟨(some 27), .mv (T 9), none⟩,
                ⟨(some 28), .iaddr none (T 26) (T 27), none⟩,
                ⟨(some 29), .load none (T 28), none⟩,
                ⟨(some 30), .bin .eql (T 29) (C (0)), none⟩])
              (.cond (T 30)
                (.exit 3)
                .skip))
              (.seq (.reg [⟨(some 31), .mv (T 1), none⟩,
                ⟨(some 32), .mv (T 9), none⟩,
                ⟨(some 33), .iaddr none (T 31) (T 32), none⟩,
                ⟨(some 34), .load none (T 33), none⟩,
                ⟨(some 35), .mv (T 0), none⟩,
                ⟨(some 36), .mv (T 9), none⟩,
                ⟨(some 37), .iaddr none (T 35) (T 36), none⟩,
                ⟨(some 38), .load none (T 37), none⟩,
                ⟨(some 39), .call true n_drayageref03_Row [(T 34), (T 38)], none⟩,
                ⟨(some 10), .mv (T 39), none⟩])
              (.seq (.seq (.reg [⟨(some 40), .mv (T 0), none⟩,
                ⟨(some 41), .mv (T 9), none⟩,
                ⟨(some 42), .iaddr none (T 40) (T 41), none⟩,
                ⟨(some 43), .load none (T 42), none⟩,
                ⟨(some 44), .mv (T 7), none⟩,
                ⟨(some 45), .bin .eql (T 43) (T 44), none⟩,
                ⟨(some 46), .mv (T 45), none⟩,
                ⟨(some 47), .mv (T 10), (some (46, true))⟩,
                ⟨(some 48), .mv (T 2), (some (46, true))⟩,
                ⟨(some 49), .call true n_drayageref03_head [(T 47), (T 48)], (some (46, true))⟩,
                ⟨(some 50), .pick (T 46) (T 49) (.const (.bool false)), none⟩])
              (.cond (T 50)
                (.seq (.reg [⟨(some 51), .mv (T 9), none⟩,
                  ⟨(some 52), .mv (T 2), none⟩,
                  ⟨(some 53), .mv (T 7), none⟩,
                  ⟨(some 54), .sl none (T 52) (some (T 53)) none, none⟩,
                  ⟨(some 55), .build [(.int .i64 (0)), (.slice none 0 0), (.int .i64 (0))] [(0, 1, (T 51)), (1, 1, (T 54))], none⟩,
                  ⟨none, .store (some 3) (T 6) (T 55), none⟩])
                .ret)
                .skip))
              (.reg [⟨(some 56), .mv (T 8), none⟩,
                ⟨(some 57), .mv (T 56), none⟩,
                ⟨(some 58), .mv (T 2), (some (57, false))⟩,
                ⟨(some 59), .mv (T 7), (some (57, false))⟩,
                ⟨(some 60), .sl none (T 58) none (some (T 59)), (some (57, false))⟩,
                ⟨(some 61), .mv (T 10), (some (57, false))⟩,
                ⟨(some 62), .call true n_drayageref03_head [(T 60), (T 61)], (some (57, false))⟩,
                ⟨(some 63), .pick (T 57) (.const (.bool true)) (T 62), none⟩,
                ⟨(some 8), .mv (T 63), none⟩])))))
            (.reg [⟨(some 24), .mv (T 9), none⟩,
              ⟨(some 25), .bin .add (T 24) (C (1)), none⟩,
              ⟨(some 9), .mv (T 25), none⟩]))))))
        (.seq (.reg [⟨(some 64), .mv (T 8), none⟩,
          ⟨(some 65), .un .not (T 64), none⟩])
        (.cond (T 65)
          (.seq (.reg [⟨(some 66), .mv (T 2), none⟩,
            ⟨(some 67), .mv (T 7), none⟩,
            ⟨(some 68), .sl none (T 66) (some (T 67)) none, none⟩,
            ⟨(some 69), .build [(.int .i64 (0)), (.slice none 0 0), (.int .i64 (0))] [(1, 1, (T 68)), (2, 1, (C (3)))], none⟩,
            ⟨none, .store (some 3) (T 6) (T 69), none⟩])
          .ret)
          .skip))))))
      (.reg [⟨(some 13), .mv (T 7), none⟩,
        ⟨(some 14), .bin .add (T 13) (C (1)), none⟩,
        ⟨(some 7), .mv (T 14), none⟩]))))))
  (.seq (.reg [⟨(some 70), .mv (T 2), none⟩,
    ⟨(some 71), .sl none (T 70) (some (C (15))) none, none⟩,
    ⟨(some 72), .build [(.int .i64 (0)), (.slice none 0 0), (.int .i64 (0))] [(1, 1, (T 71)), (2, 1, (C (3)))], none⟩,
    ⟨none, .store (some 3) (T 6) (T 72), none⟩])
  .ret)))
theorem e_drayageref03_Next : slimC Try.prog 73 (Try.f23.body.getD .skip) = s_drayageref03_Next := by kernel_rfl
theorem r_drayageref03_Next : slimRes Try.prog Try.f23 = some [.cell 6 (some 3)] := by kernel_rfl

/-- The slim code of drayage/huff.NewWriter. -/
def s_huff_NewWriter : SCode :=
  (.seq (.reg [⟨(some 0), .mv (.const (.pointer none)), none⟩])
  (.seq (.reg [⟨(some 1), .build [(.slice none 0 0), (.int .i64 (0))] [], none⟩,
    ⟨(some 2), .box (T 1), none⟩,
    ⟨(some 0), .mv (T 2), none⟩])
  .ret))
theorem e_huff_NewWriter : slimC Try.prog 3 (Try.f24.body.getD .skip) = s_huff_NewWriter := by kernel_rfl
theorem r_huff_NewWriter : slimRes Try.prog Try.f24 = some [.tmp 0] := by kernel_rfl

/-- The slim code of (*drayage/huff.Writer).Code. -/
def s_huff_Writer_Code : SCode :=
  (.seq (.seq (.reg [⟨(some 7), .mv (T 2), none⟩,
    ⟨(some 8), .bin .lss (T 7) (C (0)), none⟩,
    ⟨(some 9), .mv (T 8), none⟩,
    ⟨(some 10), .mv (T 2), (some (9, false))⟩,
    ⟨(some 11), .bin .gtr (T 10) (C (15)), (some (9, false))⟩,
    ⟨(some 12), .pick (T 9) (.const (.bool true)) (T 11), none⟩])
  (.cond (T 12)
    .ret
    .skip))
  (.seq (.reg [⟨(some 13), .mv (T 2), none⟩,
    ⟨(some 14), .mv (C (0)), none⟩])
  (.block 0
    (.loop
      (.seq (.reg [⟨(some 15), .bin .lss (T 14) (T 13), none⟩])
      (.seq (.cond (T 15)
        .skip
        (.exit 0))
      (.seq (.block 1
        (.seq (.reg [⟨(some 16), .mv (T 14), none⟩,
          ⟨(some 6), .mv (T 16), none⟩])
        (.reg [⟨(some 17), .mv (T 0), none⟩,
          ⟨(some 18), .mv (T 1), none⟩,
          ⟨(some 19), .mv (T 2), none⟩,
          ⟨(some 20), .bin .sub (T 19) (C (1)), none⟩,
          ⟨(some 21), .mv (T 6), none⟩,
          ⟨(some 22), .bin .sub (T 20) (T 21), none⟩,
          ⟨(some 23), .bin .shr (T 18) (T 22), none⟩,
          ⟨(some 24), .bin .and (T 23) (C (1)), none⟩,
          ⟨(some 25), .call true n_huff_Writer_bit [(T 17), (T 24)], none⟩])))
      (.reg [⟨(some 26), .bin .add (T 14) (C (1)), none⟩,
        ⟨(some 14), .mv (T 26), none⟩]))))))))
theorem e_huff_Writer_Code : slimC Try.prog 27 (Try.f25.body.getD .skip) = s_huff_Writer_Code := by kernel_rfl
theorem r_huff_Writer_Code : slimRes Try.prog Try.f25 = some [] := by kernel_rfl

/-- The slim code of (*drayage/huff.Writer).Bytes. -/
def s_huff_Writer_Bytes : SCode :=
  (.seq (.reg [⟨(some 2), .mv (.const (.slice none 0 0)), none⟩])
  (.seq (.reg [⟨(some 3), .mv (T 0), none⟩,
    ⟨(some 4), .nilc (T 3), none⟩,
    ⟨(some 5), .faddr 0 (T 4), none⟩,
    ⟨(some 6), .load none (T 5), none⟩,
    ⟨(some 7), .call true n_bytes_Clone [(T 6)], none⟩,
    ⟨(some 2), .mv (T 7), none⟩])
  .ret))
theorem e_huff_Writer_Bytes : slimC Try.prog 8 (Try.f26.body.getD .skip) = s_huff_Writer_Bytes := by kernel_rfl
theorem r_huff_Writer_Bytes : slimRes Try.prog Try.f26 = some [.tmp 2] := by kernel_rfl

/-- The slim code of (*drayage/huff.Writer).Len. -/
def s_huff_Writer_Len : SCode :=
  (.seq (.reg [⟨(some 2), .mv (C (0)), none⟩])
  (.seq (.reg [⟨(some 3), .mv (T 0), none⟩,
    ⟨(some 4), .nilc (T 3), none⟩,
    ⟨(some 5), .faddr 1 (T 4), none⟩,
    ⟨(some 6), .load none (T 5), none⟩,
    ⟨(some 2), .mv (T 6), none⟩])
  .ret))
theorem e_huff_Writer_Len : slimC Try.prog 7 (Try.f27.body.getD .skip) = s_huff_Writer_Len := by kernel_rfl
theorem r_huff_Writer_Len : slimRes Try.prog Try.f27 = some [.tmp 2] := by kernel_rfl

/-- The slim code of (*drayage/huff.Writer).Put. -/
def s_huff_Writer_Put : SCode :=
  (.seq (.seq (.reg [⟨(some 7), .mv (T 2), none⟩,
    ⟨(some 8), .bin .lss (T 7) (C (0)), none⟩,
    ⟨(some 9), .mv (T 8), none⟩,
    ⟨(some 10), .mv (T 2), (some (9, false))⟩,
    ⟨(some 11), .bin .gtr (T 10) (C (24)), (some (9, false))⟩,
    ⟨(some 12), .pick (T 9) (.const (.bool true)) (T 11), none⟩])
  (.cond (T 12)
    .ret
    .skip))
  (.seq (.reg [⟨(some 13), .mv (T 2), none⟩,
    ⟨(some 14), .mv (C (0)), none⟩])
  (.block 0
    (.loop
      (.seq (.reg [⟨(some 15), .bin .lss (T 14) (T 13), none⟩])
      (.seq (.cond (T 15)
        .skip
        (.exit 0))
      (.seq (.block 1
        (.seq (.reg [⟨(some 16), .mv (T 14), none⟩,
          ⟨(some 6), .mv (T 16), none⟩])
        (.reg [⟨(some 17), .mv (T 0), none⟩,
          ⟨(some 18), .mv (T 1), none⟩,
          ⟨(some 19), .mv (T 6), none⟩,
          ⟨(some 20), .bin .shr (T 18) (T 19), none⟩,
          ⟨(some 21), .bin .and (T 20) (C (1)), none⟩,
          ⟨(some 22), .call true n_huff_Writer_bit [(T 17), (T 21)], none⟩])))
      (.reg [⟨(some 23), .bin .add (T 14) (C (1)), none⟩,
        ⟨(some 14), .mv (T 23), none⟩]))))))))
theorem e_huff_Writer_Put : slimC Try.prog 24 (Try.f30.body.getD .skip) = s_huff_Writer_Put := by kernel_rfl
theorem r_huff_Writer_Put : slimRes Try.prog Try.f30 = some [] := by kernel_rfl

/-- The slim code of bytes.Clone. -/
def s_bytes_Clone : SCode :=
  (.seq (.reg [⟨(some 2), .mv (.const (.slice none 0 0)), none⟩])
  (.seq (.seq (.reg [⟨(some 3), .mv (T 0), none⟩,
    ⟨(some 4), .isnil false (T 3), none⟩])
  (.cond (T 4)
    (.seq (.reg [⟨(some 2), .mv (.const (.slice none 0 0)), none⟩])
    .ret)
    .skip))
  (.seq (.reg [⟨(some 5), .emp none, none⟩,
    ⟨(some 6), .mv (T 0), none⟩,
    ⟨(some 7), .app none 1 (T 5) (T 6), none⟩,
    ⟨(some 2), .mv (T 7), none⟩])
  .ret)))
theorem e_bytes_Clone : slimC Try.prog 8 (Try.f31.body.getD .skip) = s_bytes_Clone := by kernel_rfl
theorem r_bytes_Clone : slimRes Try.prog Try.f31 = some [.tmp 2] := by kernel_rfl

/-- The slim code of (*drayage/huff.Reader).left. -/
def s_huff_Reader_left : SCode :=
  (.seq (.reg [⟨(some 2), .mv (C (0)), none⟩])
  (.seq (.reg [⟨(some 3), .mv (T 0), none⟩,
    ⟨(some 4), .nilc (T 3), none⟩,
    ⟨(some 5), .faddr 0 (T 4), none⟩,
    ⟨(some 6), .load none (T 5), none⟩,
    ⟨(some 7), .len false (T 6), none⟩,
    ⟨(some 8), .bin .mul (T 7) (C (8)), none⟩,
    ⟨(some 9), .mv (T 0), none⟩,
    ⟨(some 10), .nilc (T 9), none⟩,
    ⟨(some 11), .faddr 1 (T 10), none⟩,
    ⟨(some 12), .load none (T 11), none⟩,
    ⟨(some 13), .bin .sub (T 8) (T 12), none⟩,
    ⟨(some 2), .mv (T 13), none⟩])
  .ret))
theorem e_huff_Reader_left : slimC Try.prog 14 (Try.f32.body.getD .skip) = s_huff_Reader_left := by kernel_rfl
theorem r_huff_Reader_left : slimRes Try.prog Try.f32 = some [.tmp 2] := by kernel_rfl

/-- The slim code of (*drayage/huff.Reader).bit. -/
def s_huff_Reader_bit : SCode :=
  (.seq (.reg [⟨(some 2), .mv (C (0)), none⟩])
  (.seq (.reg [⟨(some 4), .mv (T 0), none⟩,
    ⟨(some 5), .nilc (T 4), none⟩,
    ⟨(some 6), .faddr 0 (T 5), none⟩,
    ⟨(some 7), .load none (T 6), none⟩,
    ⟨(some 8), .mv (T 0), none⟩,
    ⟨(some 9), .nilc (T 8), none⟩,
    ⟨(some 10), .faddr 1 (T 9), none⟩,
    ⟨(some 11), .load none (T 10), none⟩,
    ⟨(some 12), .bin .quo (T 11) (C (8)), none⟩,
    ⟨(some 13), .iaddr none (T 7) (T 12), none⟩,
    ⟨(some 14), .load none (T 13), none⟩,
    ⟨(some 15), .ci .i64 (T 14), none⟩,
    ⟨(some 16), .mv (T 0), none⟩,
    ⟨(some 17), .nilc (T 16), none⟩,
    ⟨(some 18), .faddr 1 (T 17), none⟩,
    ⟨(some 19), .load none (T 18), none⟩,
    ⟨(some 20), .bin .rem (T 19) (C (8)), none⟩,
    ⟨(some 21), .bin .shr (T 15) (T 20), none⟩,
    ⟨(some 22), .bin .and (T 21) (C (1)), none⟩,
    ⟨(some 3), .mv (T 22), none⟩])
  (.seq (.reg [⟨(some 23), .mv (T 0), none⟩,
    ⟨(some 24), .nilc (T 23), none⟩,
    ⟨(some 25), .faddr 1 (T 24), none⟩,
    ⟨(some 26), .load none (T 25), none⟩,
    ⟨(some 27), .bin .add (T 26) (C (1)), none⟩,
    ⟨(some 28), .nilc (T 23), none⟩,
    ⟨(some 29), .faddr 1 (T 28), none⟩,
    ⟨none, .store none (T 29) (T 27), none⟩])
  (.seq (.reg [⟨(some 30), .mv (T 3), none⟩,
    ⟨(some 2), .mv (T 30), none⟩])
  .ret))))
theorem e_huff_Reader_bit : slimC Try.prog 31 (Try.f33.body.getD .skip) = s_huff_Reader_bit := by kernel_rfl
theorem r_huff_Reader_bit : slimRes Try.prog Try.f33 = some [.tmp 2] := by kernel_rfl

/-- The slim code of drayage/huff.firstRows. -/
def s_huff_firstRows : SCode :=
  (.seq (.reg [⟨(some 2), .alloc (List.replicate 16 (.int .i64 (0))), none⟩])
  (.seq (.reg [⟨(some 3), .alloc (List.replicate 16 (.int .i64 (0))), none⟩])
  (.seq (.seq (.reg [⟨(some 8), .mv (T 0), none⟩,
    ⟨(some 9), .len false (T 8), none⟩,
    ⟨(some 10), .mv (C (0)), none⟩])
  (.block 0
    (.loop
      (.seq (.reg [⟨(some 11), .bin .lss (T 10) (T 9), none⟩])
      (.seq (.cond (T 11)
        .skip
        (.exit 0))
      (.seq (.block 1
        (.seq (.reg [⟨(some 12), .iaddr none (T 8) (T 10), none⟩,
          ⟨(some 13), .load none (T 12), none⟩,
          ⟨(some 5), .mv (T 13), none⟩])
        (.reg [⟨(some 14), .mv (T 5), none⟩,
          ⟨(some 15), .iaddrA 16 none (T 3) (T 14), none⟩,
          ⟨(some 16), .load none (T 15), none⟩,
          ⟨(some 17), .bin .add (T 16) (C (1)), none⟩,
          ⟨(some 18), .iaddrA 16 none (T 3) (T 14), none⟩,
          ⟨none, .store none (T 18) (T 17), none⟩])))
      (.reg [⟨(some 19), .bin .add (T 10) (C (1)), none⟩,
        ⟨(some 10), .mv (T 19), none⟩])))))))
  (.seq (.reg [⟨(some 20), .iaddrA 16 none (T 3) (C (0)), none⟩,
    ⟨none, .store none (T 20) (C (0)), none⟩])
  (.seq (.reg [⟨(some 6), .alloc (List.replicate 16 (.int .i64 (0))), none⟩])
  (.seq (.seq (.reg [⟨(some 21), .mv (C (0)), none⟩])
  (.block 2
    (.loop
      (.seq (.reg [⟨(some 22), .bin .lss (T 21) (C (15)), none⟩])
      (.seq (.cond (T 22)
        .skip
        (.exit 2))
      (.seq (.block 3
        (.seq (.reg [⟨(some 23), .mv (T 21), none⟩,
          ⟨(some 7), .mv (T 23), none⟩])
        (.reg [⟨(some 24), .mv (T 7), none⟩,
          ⟨(some 25), .bin .add (T 24) (C (1)), none⟩,
          ⟨(some 26), .mv (T 7), none⟩,
          ⟨(some 27), .iaddrA 16 none (T 6) (T 26), none⟩,
          ⟨(some 28), .load none (T 27), none⟩,
          ⟨(some 29), .mv (T 7), none⟩,
          ⟨(some 30), .iaddrA 16 none (T 3) (T 29), none⟩,
          ⟨(some 31), .load none (T 30), none⟩,
          ⟨(some 32), .bin .add (T 28) (T 31), none⟩,
          ⟨(some 33), .bin .shl (T 32) (.const (.int .u64 (1))), none⟩,
          ⟨(some 34), .iaddrA 16 none (T 6) (T 25), none⟩,
          ⟨none, .store none (T 34) (T 33), none⟩])))
      (.reg [⟨(some 35), .bin .add (T 21) (C (1)), none⟩,
        ⟨(some 21), .mv (T 35), none⟩])))))))
  (.seq (.reg [⟨(some 36), .load (some 16) (T 6), none⟩,
    ⟨none, .store (some 16) (T 2) (T 36), none⟩])
  .ret)))))))
theorem e_huff_firstRows : slimC Try.prog 37 (Try.f34.body.getD .skip) = s_huff_firstRows := by kernel_rfl
theorem r_huff_firstRows : slimRes Try.prog Try.f34 = some [.cell 2 (some 16)] := by kernel_rfl

/-- The slim code of drayage/drayageref03.Check. -/
def s_drayageref03_Check : SCode :=
  (.seq (.reg [⟨(some 2), .mv (C (0)), none⟩])
  (.seq (.seq (.reg [⟨(some 4), .mv (T 0), none⟩,
    ⟨(some 5), .len false (T 4), none⟩,
    ⟨(some 6), .bin .gtr (T 5) (C (320)), none⟩])
  (.cond (T 6)
    (.seq (.reg [⟨(some 2), .mv (C (4)), none⟩])
    .ret)
    .skip))
  (.seq (.seq (.reg [⟨(some 3), .mv (C (0)), none⟩])
  (.block 0
    (.loop
      (.seq (.seq (.reg [⟨(some 7), .mv (T 3), none⟩,
        ⟨(some 8), .mv (T 0), none⟩,
        ⟨(some 9), .len false (T 8), none⟩,
        ⟨(some 10), .bin .lss (T 7) (T 9), none⟩])
      (.cond (T 10)
        .skip
        (.exit 0)))
      (.seq (.block 1
        (.seq (.reg [⟨(some 13), .mv (T 0), none⟩,
          ⟨(some 14), .mv (T 3), none⟩,
          ⟨(some 15), .iaddr none (T 13) (T 14), none⟩,
          ⟨(some 16), .load none (T 15), none⟩,
          ⟨(some 17), .bin .lss (T 16) (C (0)), none⟩,
          ⟨(some 18), .mv (T 17), none⟩,
          ⟨(some 19), .mv (T 0), (some (18, false))⟩,
          ⟨(some 20), .mv (T 3), (some (18, false))⟩,
          ⟨(some 21), .iaddr none (T 19) (T 20), (some (18, false))⟩,
          ⟨(some 22), .load none (T 21), (some (18, false))⟩,
          ⟨(some 23), .bin .gtr (T 22) (C (15)), (some (18, false))⟩,
          ⟨(some 24), .pick (T 18) (.const (.bool true)) (T 23), none⟩])
        (.cond (T 24)
          (.seq (.reg [⟨(some 2), .mv (C (1)), none⟩])
          .ret)
          .skip)))
      (.reg [⟨(some 11), .mv (T 3), none⟩,
        ⟨(some 12), .bin .add (T 11) (C (1)), none⟩,
        ⟨(some 3), .mv (T 12), none⟩]))))))
  (.seq (.seq (.reg [⟨(some 25), .mv (T 0), none⟩,
    ⟨(some 26), .call true n_drayageref03_share [(T 25)], none⟩,
    ⟨(some 27), .bin .gtr (T 26) (C (32768)), none⟩])
  (.cond (T 27)
    (.seq (.reg [⟨(some 2), .mv (C (3)), none⟩])
    .ret)
    .skip))
  (.seq (.reg [⟨(some 2), .mv (C (0)), none⟩])
  .ret)))))
theorem e_drayageref03_Check : slimC Try.prog 28 (Try.f35.body.getD .skip) = s_drayageref03_Check := by kernel_rfl
theorem r_drayageref03_Check : slimRes Try.prog Try.f35 = some [.tmp 2] := by kernel_rfl

/-- The slim code of drayage/huff.taken. -/
def s_huff_taken : SCode :=
  (.seq (.reg [⟨(some 2), .mv (C (0)), none⟩])
  (.seq (.reg [⟨(some 3), .mv (C (0)), none⟩])
  (.seq (.seq (.reg [⟨(some 6), .mv (T 0), none⟩,
    ⟨(some 7), .len false (T 6), none⟩,
    ⟨(some 8), .mv (C (0)), none⟩])
  (.block 0
    (.loop
      (.seq (.reg [⟨(some 9), .bin .lss (T 8) (T 7), none⟩])
      (.seq (.cond (T 9)
        .skip
        (.exit 0))
      (.seq (.block 1
        (.seq (.reg [⟨(some 10), .iaddr none (T 6) (T 8), none⟩,
          ⟨(some 11), .load none (T 10), none⟩,
          ⟨(some 5), .mv (T 11), none⟩])
        (.seq (.reg [⟨(some 12), .mv (T 5), none⟩,
          ⟨(some 13), .bin .gtr (T 12) (C (0)), none⟩])
        (.cond (T 13)
          (.reg [⟨(some 14), .mv (T 3), none⟩,
            ⟨(some 15), .mv (T 5), none⟩,
            ⟨(some 16), .bin .shr (C (32768)) (T 15), none⟩,
            ⟨(some 17), .bin .add (T 14) (T 16), none⟩,
            ⟨(some 3), .mv (T 17), none⟩])
          .skip))))
      (.reg [⟨(some 18), .bin .add (T 8) (C (1)), none⟩,
        ⟨(some 8), .mv (T 18), none⟩])))))))
  (.seq (.reg [⟨(some 19), .mv (T 3), none⟩,
    ⟨(some 2), .mv (T 19), none⟩])
  .ret))))
theorem e_huff_taken : slimC Try.prog 20 (Try.f36.body.getD .skip) = s_huff_taken := by kernel_rfl
theorem r_huff_taken : slimRes Try.prog Try.f36 = some [.tmp 2] := by kernel_rfl

/-- The slim code of drayage/drayageref03.share. -/
def s_drayageref03_share : SCode :=
  (.seq (.reg [⟨(some 2), .mv (C (0)), none⟩])
  (.seq (.reg [⟨(some 3), .mv (C (0)), none⟩])
  (.seq (.seq (.reg [⟨(some 4), .mv (C (0)), none⟩])
  (.block 0
    (.loop
      (.seq (.seq (.reg [⟨(some 7), .mv (T 4), none⟩,
        ⟨(some 8), .mv (T 0), none⟩,
        ⟨(some 9), .len false (T 8), none⟩,
        ⟨(some 10), .bin .lss (T 7) (T 9), none⟩])
      (.cond (T 10)
        .skip
        (.exit 0)))
      (.seq (.block 1
        (.seq (.reg [⟨(some 13), .mv (T 0), none⟩,
          ⟨(some 14), .mv (T 4), none⟩,
          ⟨(some 15), .iaddr none (T 13) (T 14), none⟩,
          ⟨(some 16), .load none (T 15), none⟩,
          ⟨(some 17), .bin .gtr (T 16) (C (0)), none⟩])
        (.cond (T 17)
          (.seq (.reg [⟨(some 5), .mv (C (32768)), none⟩])
          (.seq (.seq (.reg [⟨(some 6), .mv (C (0)), none⟩])
          (.block 2
            (.loop
              (.seq (.seq (.reg [⟨(some 18), .mv (T 6), none⟩,
                ⟨(some 19), .mv (T 0), none⟩,
                ⟨(some 20), .mv (T 4), none⟩,
                ⟨(some 21), .iaddr none (T 19) (T 20), none⟩,
                ⟨(some 22), .load none (T 21), none⟩,
                ⟨(some 23), .bin .lss (T 18) (T 22), none⟩])
              (.cond (T 23)
                .skip
                (.exit 2)))
              (.seq (.block 3
                (.reg [⟨(some 26), .mv (T 5), none⟩,
                  ⟨(some 27), .bin .quo (T 26) (C (2)), none⟩,
                  ⟨(some 5), .mv (T 27), none⟩]))
              (.reg [⟨(some 24), .mv (T 6), none⟩,
                ⟨(some 25), .bin .add (T 24) (C (1)), none⟩,
                ⟨(some 6), .mv (T 25), none⟩]))))))
          (.reg [⟨(some 28), .mv (T 3), none⟩,
            ⟨(some 29), .mv (T 5), none⟩,
            ⟨(some 30), .bin .add (T 28) (T 29), none⟩,
            ⟨(some 3), .mv (T 30), none⟩])))
          .skip)))
      (.reg [⟨(some 11), .mv (T 4), none⟩,
        ⟨(some 12), .bin .add (T 11) (C (1)), none⟩,
        ⟨(some 4), .mv (T 12), none⟩]))))))
  (.seq (.reg [⟨(some 31), .mv (T 3), none⟩,
    ⟨(some 2), .mv (T 31), none⟩])
  .ret))))
theorem e_drayageref03_share : slimC Try.prog 32 (Try.f37.body.getD .skip) = s_drayageref03_share := by kernel_rfl
theorem r_drayageref03_share : slimRes Try.prog Try.f37 = some [.tmp 2] := by kernel_rfl

/-- The slim code of (*drayage/huff.Tree).begins. -/
def s_huff_Tree_begins : SCode :=
  (.seq (.reg [⟨(some 6), .mv (.const (.bool false)), none⟩])
  (.seq (.reg [⟨(some 7), .mv (T 1), none⟩,
    ⟨(some 8), .mv (T 2), none⟩,
    ⟨(some 9), .bin .sub (C (15)) (T 8), none⟩,
    ⟨(some 10), .bin .shl (T 7) (T 9), none⟩,
    ⟨(some 11), .mv (T 0), none⟩,
    ⟨(some 12), .nilc (T 11), none⟩,
    ⟨(some 13), .faddr 32 (T 12), none⟩,
    ⟨(some 14), .load none (T 13), none⟩,
    ⟨(some 15), .bin .lss (T 10) (T 14), none⟩,
    ⟨(some 6), .mv (T 15), none⟩])
  .ret))
theorem e_huff_Tree_begins : slimC Try.prog 16 (Try.f38.body.getD .skip) = s_huff_Tree_begins := by kernel_rfl
theorem r_huff_Tree_begins : slimRes Try.prog Try.f38 = some [.tmp 6] := by kernel_rfl

/-- The slim code of drayage/drayageref03.Row. -/
def s_drayageref03_Row : SCode :=
  (.seq (.reg [⟨(some 4), .mv (.const (.slice none 0 0)), none⟩])
  (.seq (.reg [⟨(some 5), .mv (.const (.slice none 0 0)), none⟩])
  (.seq (.seq (.reg [⟨(some 7), .mv (T 1), none⟩,
    ⟨(some 8), .bin .sub (T 7) (C (1)), none⟩,
    ⟨(some 6), .mv (T 8), none⟩])
  (.block 0
    (.loop
      (.seq (.seq (.reg [⟨(some 9), .mv (T 6), none⟩,
        ⟨(some 10), .bin .geq (T 9) (C (0)), none⟩])
      (.cond (T 10)
        .skip
        (.exit 0)))
      (.seq (.block 1
        (.reg [⟨(some 13), .mv (T 5), none⟩,
          ⟨(some 14), .mv (T 0), none⟩,
          ⟨(some 15), .mv (T 6), none⟩,
          ⟨(some 16), .ci .u64 (T 15), none⟩,
          ⟨(some 17), .bin .shr (T 14) (T 16), none⟩,
          ⟨(some 18), .bin .and (T 17) (C (1)), none⟩,
          ⟨(some 19), .bslice none [(T 18)], none⟩,
          ⟨(some 20), .app none 8 (T 13) (T 19), none⟩,
          ⟨(some 5), .mv (T 20), none⟩]))
      (.reg [⟨(some 11), .mv (T 6), none⟩,
        ⟨(some 12), .bin .sub (T 11) (C (1)), none⟩,
        ⟨(some 6), .mv (T 12), none⟩]))))))
  (.seq (.reg [⟨(some 21), .mv (T 5), none⟩,
    ⟨(some 4), .mv (T 21), none⟩])
  .ret))))
theorem e_drayageref03_Row : slimC Try.prog 22 (Try.f39.body.getD .skip) = s_drayageref03_Row := by kernel_rfl
theorem r_drayageref03_Row : slimRes Try.prog Try.f39 = some [.tmp 4] := by kernel_rfl

/-- The slim code of drayage/drayageref03.head. -/
def s_drayageref03_head : SCode :=
  (.seq (.reg [⟨(some 4), .mv (.const (.bool false)), none⟩])
  (.seq (.seq (.reg [⟨(some 6), .mv (T 0), none⟩,
    ⟨(some 7), .len false (T 6), none⟩,
    ⟨(some 8), .mv (T 1), none⟩,
    ⟨(some 9), .len false (T 8), none⟩,
    ⟨(some 10), .bin .gtr (T 7) (T 9), none⟩])
  (.cond (T 10)
    (.seq (.reg [⟨(some 4), .mv (.const (.bool false)), none⟩])
    .ret)
    .skip))
  (.seq (.seq (.reg [⟨(some 5), .mv (C (0)), none⟩])
  (.block 0
    (.loop
      (.seq (.seq (.reg [⟨(some 11), .mv (T 5), none⟩,
        ⟨(some 12), .mv (T 0), none⟩,
        ⟨(some 13), .len false (T 12), none⟩,
        ⟨(some 14), .bin .lss (T 11) (T 13), none⟩])
      (.cond (T 14)
        .skip
        (.exit 0)))
      (.seq (.block 1
        (.seq (.reg [⟨(some 17), .mv (T 0), none⟩,
          ⟨(some 18), .mv (T 5), none⟩,
          ⟨(some 19), .iaddr none (T 17) (T 18), none⟩,
          ⟨(some 20), .load none (T 19), none⟩,
          ⟨(some 21), .mv (T 1), none⟩,
          ⟨(some 22), .mv (T 5), none⟩,
          ⟨(some 23), .iaddr none (T 21) (T 22), none⟩,
          ⟨(some 24), .load none (T 23), none⟩,
          ⟨(some 25), .bin .neq (T 20) (T 24), none⟩])
        (.cond (T 25)
          (.seq (.reg [⟨(some 4), .mv (.const (.bool false)), none⟩])
          .ret)
          .skip)))
      (.reg [⟨(some 15), .mv (T 5), none⟩,
        ⟨(some 16), .bin .add (T 15) (C (1)), none⟩,
        ⟨(some 5), .mv (T 16), none⟩]))))))
  (.seq (.reg [⟨(some 4), .mv (.const (.bool true)), none⟩])
  .ret))))
theorem e_drayageref03_head : slimC Try.prog 26 (Try.f40.body.getD .skip) = s_drayageref03_head := by kernel_rfl
theorem r_drayageref03_head : slimRes Try.prog Try.f40 = some [.tmp 4] := by kernel_rfl

/-- The slim code of (*drayage/huff.Writer).bit. -/
def s_huff_Writer_bit : SCode :=
  (.seq (.seq (.reg [⟨(some 4), .mv (T 0), none⟩,
    ⟨(some 5), .nilc (T 4), none⟩,
    ⟨(some 6), .faddr 1 (T 5), none⟩,
    ⟨(some 7), .load none (T 6), none⟩,
    ⟨(some 8), .bin .rem (T 7) (C (8)), none⟩,
    ⟨(some 9), .bin .eql (T 8) (C (0)), none⟩])
  (.cond (T 9)
    (.reg [⟨(some 10), .mv (T 0), none⟩,
      ⟨(some 11), .mv (T 0), none⟩,
      ⟨(some 12), .nilc (T 11), none⟩,
      ⟨(some 13), .faddr 0 (T 12), none⟩,
      ⟨(some 14), .load none (T 13), none⟩,
      ⟨(some 15), .bslice none [(.const (.int .u8 (0)))], none⟩,
      ⟨(some 16), .app none 1 (T 14) (T 15), none⟩,
      ⟨(some 17), .nilc (T 10), none⟩,
      ⟨(some 18), .faddr 0 (T 17), none⟩,
      ⟨none, .store none (T 18) (T 16), none⟩])
    .skip))
  (.seq (.reg [⟨(some 19), .mv (T 0), none⟩,
    ⟨(some 20), .nilc (T 19), none⟩,
    ⟨(some 21), .faddr 0 (T 20), none⟩,
    ⟨(some 22), .load none (T 21), none⟩,
    ⟨(some 23), .mv (T 0), none⟩,
    ⟨(some 24), .nilc (T 23), none⟩,
    ⟨(some 25), .faddr 1 (T 24), none⟩,
    ⟨(some 26), .load none (T 25), none⟩,
    ⟨(some 27), .bin .quo (T 26) (C (8)), none⟩,
    ⟨(some 28), .iaddr none (T 22) (T 27), none⟩,
    ⟨(some 29), .load none (T 28), none⟩,
    ⟨(some 30), .mv (T 1), none⟩,
    ⟨(some 31), .mv (T 0), none⟩,
    ⟨(some 32), .nilc (T 31), none⟩,
    ⟨(some 33), .faddr 1 (T 32), none⟩,
    ⟨(some 34), .load none (T 33), none⟩,
    ⟨(some 35), .bin .rem (T 34) (C (8)), none⟩,
    ⟨(some 36), .bin .shl (T 30) (T 35), none⟩,
    ⟨(some 37), .ci .u8 (T 36), none⟩,
    ⟨(some 38), .bin .or (T 29) (T 37), none⟩,
    ⟨(some 39), .iaddr none (T 22) (T 27), none⟩,
    ⟨none, .store none (T 39) (T 38), none⟩])
  (.reg [⟨(some 40), .mv (T 0), none⟩,
    ⟨(some 41), .nilc (T 40), none⟩,
    ⟨(some 42), .faddr 1 (T 41), none⟩,
    ⟨(some 43), .load none (T 42), none⟩,
    ⟨(some 44), .bin .add (T 43) (C (1)), none⟩,
    ⟨(some 45), .nilc (T 40), none⟩,
    ⟨(some 46), .faddr 1 (T 45), none⟩,
    ⟨none, .store none (T 46) (T 44), none⟩])))
theorem e_huff_Writer_bit : slimC Try.prog 47 (Try.f41.body.getD .skip) = s_huff_Writer_bit := by kernel_rfl
theorem r_huff_Writer_bit : slimRes Try.prog Try.f41 = some [] := by kernel_rfl

end Go.Proofs.Ytljmllmfjfimpaa.Aw
