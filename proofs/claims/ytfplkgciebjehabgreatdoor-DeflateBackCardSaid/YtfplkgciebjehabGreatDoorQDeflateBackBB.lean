/- Parts of the proof of DeflateBack. -/
import Derived.Test.YtfplkgciebjehabGreatDoorQDeflateBackBA
import Derived.Test.YtfplkgciebjehabGreatDoorProg
import Derived.Lib.Bytealg
namespace Go.Proofs.YtfplkgciebjehabGreatDoor.Aw
open Go
set_option maxRecDepth 100000
set_option linter.unusedSimpArgs false
abbrev Zqj:Nat:=140
abbrev Zsq:Nat:=145
abbrev Znl:Nat:=146
abbrev Zqk:Nat:=118
abbrev Zsr:Nat:=141
abbrev Znm:Nat:=142
abbrev Zd6:Nat:=42
abbrev ZiG:Nat:=152
abbrev Zhg:Nat:=156
abbrev Zbe:Nat:=6
abbrev ZcE:Nat:=80
abbrev Zgb:Nat:=40
abbrev Zfs:Nat:=83
abbrev ZdG:Nat:=74
abbrev ZfN:Nat:=81
abbrev ZhB:Nat:=38
abbrev Zft:Nat:=79
abbrev Zey:Nat:=120
abbrev Zcb:Nat:=119
abbrev ZdU:Nat:=78
abbrev ZbY:Nat:=121
abbrev Zfu:Nat:=36
abbrev Zgc:Nat:=77
abbrev ZbZ:Nat:=34
abbrev ZdV:Nat:=17
abbrev Zez:Nat:=15
abbrev Zco:Nat:=35
abbrev Zd7:Nat:=14
abbrev ZbL:Nat:=33
abbrev Zbn:Nat:=70
abbrev Ze4:Nat:=41
abbrev Zcl:Nat:=73
abbrev Zb6:Nat:=72
abbrev Zcp:Nat:=71
abbrev Zd8:Nat:=16
abbrev Zbs:Nat:=37
abbrev Zbt:Nat:=39
abbrev Zd9:Nat:=115
abbrev ZiH:Nat:=123
abbrev ZhC:Nat:=82
abbrev Zda:Nat:=3
abbrev Zfv:Nat:=5
abbrev Zgd:Nat:=22
abbrev Zdm:Nat:=98
abbrev Zdn:Nat:=53
abbrev ZbU:Nat:=54
abbrev Zge:Nat:=96
abbrev Ze5:Nat:=48
abbrev ZgW:Nat:=133
abbrev ZdK:Nat:=134
abbrev Zdo:Nat:=99
abbrev ZeA:Nat:=8
abbrev Zfw:Nat:=26
abbrev Zbu:Nat:=27
abbrev Zdp:Nat:=97
abbrev Zat:Nat:=49
abbrev Zb1:Nat:=25
abbrev Zcw:Nat:=52
abbrev ZcP:Nat:=51
abbrev Zai:Nat:=23
abbrev ZcQ:Nat:=24
abbrev Zbo:Nat:=50
abbrev Zds:Nat:=29
abbrev ZaN:Nat:=28
abbrev ZgX:Nat:=124
abbrev Zjg:Nat:=116
abbrev Zgf:Nat:=130
abbrev ZkB:Nat:=122
abbrev ZiI:Nat:=19
abbrev Zcc:Nat:=89
abbrev ZiJ:Nat:=13
abbrev ZdL:Nat:=86
abbrev ZiK:Nat:=21
abbrev ZdM:Nat:=87
abbrev Za1:Nat:=43
abbrev ZeR:Nat:=85
abbrev ZcF:Nat:=84
abbrev ZdH:Nat:=90
abbrev ZgY:Nat:=127
abbrev ZdN:Nat:=67
abbrev Zgg:Nat:=18
abbrev ZgZ:Nat:=114
abbrev ZaE:Nat:=68
abbrev ZhD:Nat:=69
abbrev ZeS:Nat:=113
abbrev Zby:Nat:=148
abbrev Zjh:Nat:=143
abbrev Zfk:Nat:=125
abbrev Znn:Nat:=150
abbrev Zg0:Nat:=126
abbrev ZhE:Nat:=7
abbrev ZhF:Nat:=95
abbrev Zgh:Nat:=132
abbrev Zfx:Nat:=45
abbrev ZdW:Nat:=20
abbrev ZcR:Nat:=129
abbrev Zdt:Nat:=128
abbrev Zdb:Nat:=94
abbrev Zb2:Nat:=91
abbrev Za0:Nat:=131
abbrev ZbM:Nat:=88
abbrev ZeB:Nat:=92
abbrev Zdu:Nat:=44
abbrev Zb3:Nat:=46
abbrev Zdv:Nat:=93
abbrev ZcG:Nat:=47
abbrev ZbV:Nat:=149
abbrev Zbf:Nat:=75
abbrev Zb7:Nat:=153
abbrev Zgi:Nat:=117
abbrev Zay:Nat:=76
abbrev ZaG:Nat:=147
abbrev ZaU:Nat:=154
abbrev Zcd:Nat:=157
abbrev Zce:Nat:=151
abbrev ZaH:Nat:=158
abbrev Zau:Nat:=155
theorem mix:Tryz.prog.follows .mixedOrders=true:=by kernel_rfl
def Zij:SCode :=
 (.seq (.reg [so 2 (.mv (.const (.slice none 0 0)))])
 (.seq (.seq (.reg [sm 3 0,so 4 (.isnil false (T 3))])
 (.cond (T 4)
 (.seq (.reg [so 2 (.mv (.const (.slice none 0 0)))])
 .ret)
 .skip))
 (.seq (.reg [so 5 (.emp none),sm 6 0,so 7 (.app none 1 (T 5) (T 6)),sm 2 7])
 .ret)))
theorem ZlH:Zam Tryz.prog 8 (Tryz.f42.body.getD .skip)=Zij:=by kernel_rfl
theorem ZlI:Zaf Tryz.prog Tryz.f42=some [.tmp 2]:=by kernel_rfl
def Zcm:SCode :=
 (.seq (.reg [so 4 (.mv (.const (.slice none 0 0))),so 5 (.mv (C 0))])
 (.seq (.seq (.reg [sm 7 1,so 8 (.bin .lss (T 7) (C 0)),sm 9 8,sg 10 (.mv (T 1)) 9 false,sg 11 (.bin .gtr (T 10) (C 2)) 9 false,so 12 (.pick (T 9) (.const (.bool true)) (T 11))])
 (.cond (T 12)
 (.seq (.reg [so 4 (.mv (.const (.slice none 0 0))),so 5 (.mv (C 1))])
 .ret)
 .skip))
 (.seq (.seq (.reg [sm 13 0,so 14 (.len false (T 13)),so 15 (.bin .gtr (T 14) (C 16777216))])
 (.cond (T 15)
 (.seq (.reg [so 4 (.mv (.const (.slice none 0 0))),so 5 (.mv (C 4))])
 .ret)
 .skip))
 (.seq (.reg [so 16 (.call true ZiJ []),so 17 (.build [(.pointer none)] [(0,1,(T 16))]),so 6 (.alloc [(.pointer none)]),sn (.store (some 1) (T 6) (T 17))])
 (.seq (.seq (.reg [sm 18 1])
 (.block 0
 (.seq (.reg [so 20 (.bin .eql (T 18) (C 0)),sm 19 20])
 (.cond (T 19)
 (.reg [so 21 (.load (some 1) (T 6)),sm 22 0,so 23 (.call true Zd7 [(T 21),(T 22)])])
 (.seq (.reg [so 25 (.bin .eql (T 18) (C 1)),sm 24 25])
 (.cond (T 24)
 (.reg3 [so 26 (.load (some 1) (T 6)),sm 27 0,so 28 (.call true Zd8 [(T 27)])]
 [((some 1),(T 6),26)]
 [so 29 (.call true Zez [(T 26),(T 28)])])
 (.seq (.reg [so 31 (.bin .eql (T 18) (C 2)),sm 30 31])
 (.cond (T 30)
 (.reg3 [so 32 (.load (some 1) (T 6)),sm 33 0,so 34 (.call true Zd8 [(T 33)])]
 [((some 1),(T 6),32)]
 [so 35 (.call true ZdV [(T 32),(T 34)])])
 .skip))))))))
 (.seq (.reg [so 36 (.faddr 0 (T 6)),so 37 (.load none (T 36)),so 38 (.call true Zgg [(T 37)]),sm 4 38,so 5 (.mv (C 0))])
 .ret))))))
theorem Zc3:Zam Tryz.prog 39 (Tryz.f6.body.getD .skip)=Zcm:=by kernel_rfl
theorem Zc4:Zaf Tryz.prog Tryz.f6=some [.tmp 4,.tmp 5]:=by kernel_rfl
def ZhG:SCode :=
 (.seq (.reg [so 4 (.mv (.const (.slice none 0 0))),so 5 (.mv (C 0)),so 6 (.mv (C 0))])
 (.seq (.seq (.reg [sm 9 1,so 10 (.bin .lss (T 9) (C 0)),sm 11 10,sg 12 (.mv (T 1)) 11 false,sg 13 (.bin .gtr (T 12) (C 16777216)) 11 false,so 14 (.pick (T 11) (.const (.bool true)) (T 13))])
 (.cond (T 14)
 (.seq (.reg [so 4 (.mv (.const (.slice none 0 0))),so 5 (.mv (C 0)),so 6 (.mv (C 1))])
 .ret)
 .skip))
 (.seq (.reg [sm 15 0,so 16 (.call true ZiI [(T 15)]),sm 17 1,so 18 (.build [(.pointer none),(.slice none 0 0),(.int .i64 (0)),(.pointer none)] [(0,1,(T 16)),(2,1,(T 17))]),so 19 (.box (T 18)),sm 7 19])
 (.seq (.seq (.reg [so 8 (.mv (.const (.bool false)))])
 (.block 0
 (.loop
 (.seq (.seq (.reg [sm 20 8,so 21 (.un .not (T 20))])
 (.cond (T 21)
 .skip
 (.exit 0)))
 (.block 1
 (.seq (.reg [sm 23 7,so 24 (.call true ZdW [(T 23)]),sm 22 24,so 25 (.ext (T 22) 0),so 26 (.ext (T 22) 1),sm 8 25,sm 6 26])
 (.seq (.reg [sm 27 6,so 28 (.bin .neq (T 27) (C 0))])
 (.cond (T 28)
 (.seq (.reg [sm 29 6,so 4 (.mv (.const (.slice none 0 0))),so 5 (.mv (C 0)),sm 6 29])
 .ret)
 .skip))))))))
 (.seq (.reg [sm 30 7,so 31 (.nilc (T 30)),so 32 (.faddr 0 (T 31)),so 33 (.load none (T 32)),so 34 (.call true ZiK [(T 33)]),so 35 (.bin .add (T 34) (C 8)),so 36 (.bin .sub (T 35) (C 1)),so 37 (.bin .quo (T 36) (C 8)),sm 5 37])
 (.seq (.reg [sm 38 7,so 39 (.nilc (T 38)),so 40 (.faddr 1 (T 39)),so 41 (.load none (T 40)),sm 42 7,so 43 (.nilc (T 42)),so 44 (.faddr 1 (T 43)),so 45 (.load none (T 44)),so 46 (.len false (T 45)),sm 47 7,so 48 (.nilc (T 47)),so 49 (.faddr 1 (T 48)),so 50 (.load none (T 49)),so 51 (.len false (T 50)),so 52 (.sl3 none (T 41) none (T 46) (T 51)),sm 53 5,sm 4 52,sm 5 53,so 6 (.mv (C 0))])
 .ret))))))
theorem ZmF:Zam Tryz.prog 54 (Tryz.f7.body.getD .skip)=ZhG:=by kernel_rfl
theorem ZmG:Zaf Tryz.prog Tryz.f7=some [.tmp 4,.tmp 5,.tmp 6]:=by kernel_rfl
def ZeC:SCode :=
 (.seq (.reg [so 4 (.alloc [(.slice none 0 0),(.int .i64 (0)),(.int .i64 (0))])])
 (.seq (.seq (.reg [sm 8 1,so 9 (.bin .lss (T 8) (C 0)),sm 10 9,sg 11 (.mv (T 1)) 10 false,sg 12 (.bin .gtr (T 11) (C 16777216)) 10 false,so 13 (.pick (T 10) (.const (.bool true)) (T 12))])
 (.cond (T 13)
 (.seq (.reg [so 14 (.build [(.slice none 0 0),(.int .i64 (0)),(.int .i64 (0))] [(2,1,(C 1))]),sn (.store (some 3) (T 4) (T 14))])
 .ret)
 .skip))
 (.seq (.reg [sm 15 0,so 16 (.call true Zgd [(T 15)]),sm 17 1,so 18 (.build [(.slice none 0 0),(.int .i64 (0)),(.slice none 0 0),(.int .i64 (0)),(.int .i64 (0))] [(0,1,(T 16)),(3,1,(T 17))]),so 19 (.box (T 18)),sm 5 19])
 (.seq (.block 0
 (.loop
 (.seq (.seq (.reg [sm 20 5,so 21 (.nilc (T 20)),so 22 (.faddr 4 (T 21)),so 23 (.load none (T 22)),so 24 (.bin .eql (T 23) (C 0))])
 (.cond (T 24)
 .skip
 (.exit 0)))
 (.block 1
 (.seq (.reg [sm 25 5,so 26 (.call true Zai [(T 25),(C 1)]),sm 6 26])
 (.seq (.reg [sm 27 5,so 28 (.call true Zai [(T 27),(C 2)]),sm 7 28])
 (.seq (.seq (.reg [sm 29 5,so 30 (.nilc (T 29)),so 31 (.faddr 4 (T 30)),so 32 (.load none (T 31)),so 33 (.bin .neq (T 32) (C 0))])
 (.cond (T 33)
 (.exit 0)
 .skip))
 (.seq (.seq (.reg [sm 34 7])
 (.block 2
 (.seq (.reg [so 39 (.bin .eql (T 34) (C 0)),sm 38 39])
 (.cond (T 38)
 (.reg [sm 40 5,so 41 (.call true ZcQ [(T 40)])])
 (.seq (.reg [so 43 (.bin .eql (T 34) (C 1)),sm 42 43])
 (.cond (T 42)
 (.reg [sm 44 5,so 45 (.call true Zfw []),so 46 (.call true ZaN [(C 5),(C 32)]),so 47 (.call true Zbu [(T 46)]),so 48 (.call true Zb1 [(T 44),(T 45),(T 47)])])
 (.seq (.reg [so 50 (.bin .eql (T 34) (C 2)),sm 49 50])
 (.cond (T 49)
 (.reg [sm 51 5,so 52 (.call true Zds [(T 51)])])
 (.reg [sm 35 5,so 36 (.nilc (T 35)),so 37 (.faddr 4 (T 36)),sn (.store none (T 37) (C 3))])))))))))
 (.seq (.reg [sm 53 6,so 54 (.bin .eql (T 53) (C 1)),sm 55 54,sg 56 (.mv (T 5)) 55 true,sg 57 (.nilc (T 56)) 55 true,sg 58 (.faddr 4 (T 57)) 55 true,sg 59 (.load none (T 58)) 55 true,sg 60 (.bin .eql (T 59) (C 0)) 55 true,so 61 (.pick (T 55) (T 60) (.const (.bool false)))])
 (.cond (T 61)
 (.seq (.reg [sm 62 5,so 63 (.nilc (T 62)),so 64 (.faddr 2 (T 63)),so 65 (.load none (T 64)),sm 66 5,so 67 (.nilc (T 66)),so 68 (.faddr 1 (T 67)),so 69 (.load none (T 68)),so 70 (.bin .add (T 69) (C 7)),so 71 (.bin .quo (T 70) (C 8)),so 72 (.build [(.slice none 0 0),(.int .i64 (0)),(.int .i64 (0))] [(0,1,(T 65)),(1,1,(T 71))]),sn (.store (some 3) (T 4) (T 72))])
 .ret)
 .skip))))))))))
 (.seq (.reg [sm 73 5,so 74 (.nilc (T 73)),so 75 (.faddr 4 (T 74)),so 76 (.load none (T 75)),so 77 (.build [(.slice none 0 0),(.int .i64 (0)),(.int .i64 (0))] [(2,1,(T 76))]),sn (.store (some 3) (T 4) (T 77))])
 .ret)))))
theorem ZiX:Zam Tryz.prog 78 (Tryz.f8.body.getD .skip)=ZeC:=by kernel_rfl
theorem ZiY:Zaf Tryz.prog Tryz.f8=some [.cell 4 (some 3)]:=by kernel_rfl
def ZiL:SCode :=
 (.seq (.reg [so 2 (.mv (.const (.pointer none)))])
 (.seq (.reg [sm 3 0,so 4 (.call true Zd6 [(T 3)]),so 5 (.build [(.slice none 0 0),(.int .i64 (0))] [(0,1,(T 4))]),so 6 (.box (T 5)),sm 2 6])
 .ret))
theorem ZnE:Zam Tryz.prog 7 (Tryz.f19.body.getD .skip)=ZiL:=by kernel_rfl
theorem ZnF:Zaf Tryz.prog Tryz.f19=some [.tmp 2]:=by kernel_rfl
def ZdX:SCode :=
 (.seq (.reg [so 2 (.mv (.const (.bool false))),so 3 (.mv (C 0))])
 (.seq (.reg [sm 8 0,so 9 (.nilc (T 8)),so 10 (.faddr 0 (T 9)),so 11 (.load none (T 10)),so 12 (.call true Za1 [(T 11),(C 3)]),sm 7 12,so 13 (.ext (T 7) 0),so 14 (.ext (T 7) 1),sm 4 13,sm 5 14])
 (.seq (.seq (.reg [sm 15 5,so 16 (.un .not (T 15))])
 (.cond (T 16)
 (.seq (.reg [so 2 (.mv (.const (.bool false))),so 3 (.mv (C 2))])
 .ret)
 .skip))
 (.seq (.seq (.reg [sm 17 4,so 18 (.bin .shr (T 17) (.const (.int .u64 (1))))])
 (.block 0
 (.seq (.reg [so 20 (.bin .eql (T 18) (C 0)),sm 19 20])
 (.cond (T 19)
 (.reg [sm 21 0,so 22 (.call true Zdu [(T 21)]),sm 3 22])
 (.seq (.reg [so 24 (.bin .eql (T 18) (C 1)),sm 23 24])
 (.cond (T 23)
 (.seq (.seq (.reg [sm 25 0,so 26 (.nilc (T 25)),so 27 (.faddr 3 (T 26)),so 28 (.load none (T 27)),so 29 (.isnilp false (T 28))])
 (.cond (T 29)
 (.reg [sm 30 0,so 31 (.call true Zfx []),so 32 (.nilc (T 30)),so 33 (.faddr 3 (T 32)),sn (.store none (T 33) (T 31))])
 .skip))
 (.reg [sm 34 0,sm 35 0,so 36 (.nilc (T 35)),so 37 (.faddr 3 (T 36)),so 38 (.load none (T 37)),so 39 (.call true Zb3 [(T 34),(T 38)]),sm 3 39]))
 (.seq (.reg [so 41 (.bin .eql (T 18) (C 2)),sm 40 41])
 (.cond (T 40)
 (.seq (.reg [so 6 (.mv (.const (.pointer none)))])
 (.seq (.reg [sm 43 0,so 44 (.call true ZcG [(T 43)]),sm 42 44,so 45 (.ext (T 42) 0),so 46 (.ext (T 42) 1),sm 6 45,sm 3 46])
 (.seq (.reg [sm 47 3,so 48 (.bin .eql (T 47) (C 0))])
 (.cond (T 48)
 (.reg [sm 49 0,sm 50 6,so 51 (.call true Zb3 [(T 49),(T 50)]),sm 3 51])
 .skip))))
 (.reg [so 3 (.mv (C 3))])))))))))
 (.seq (.reg [sm 52 4,so 53 (.bin .and (T 52) (C 1)),so 54 (.bin .eql (T 53) (C 1)),sm 55 3,sm 2 54,sm 3 55])
 .ret)))))
theorem ZhH:Zam Tryz.prog 56 (Tryz.f20.body.getD .skip)=ZdX:=by kernel_rfl
theorem ZhI:Zaf Tryz.prog Tryz.f20=some [.tmp 2,.tmp 3]:=by kernel_rfl
def ZiM:SCode :=
 (.seq (.reg [so 2 (.mv (C 0))])
 (.seq (.reg [sm 3 0,so 4 (.nilc (T 3)),so 5 (.faddr 1 (T 4)),so 6 (.load none (T 5)),sm 2 6])
 .ret))
theorem ZnG:Zam Tryz.prog 7 (Tryz.f21.body.getD .skip)=ZiM:=by kernel_rfl
theorem ZnH:Zaf Tryz.prog Tryz.f21=some [.tmp 2]:=by kernel_rfl
def Zgj:SCode :=
 (.seq (.reg [so 2 (.mv (.const (.slice none 0 0)))])
 (.seq (.reg [so 3 (.mv (.const (.slice none 0 0)))])
 (.seq (.seq (.reg [so 4 (.mv (C 0))])
 (.block 0
 (.loop
 (.seq (.seq (.reg [sm 7 4,sm 8 0,so 9 (.len false (T 8)),so 10 (.bin .lss (T 7) (T 9))])
 (.cond (T 10)
 .skip
 (.exit 0)))
 (.seq (.block 1
 (.seq (.reg [sm 13 0,sm 14 4,so 15 (.iaddr none (T 13) (T 14)),so 16 (.load none (T 15)),so 17 (.ci .i64 (T 16)),sm 5 17])
 (.seq (.reg [so 6 (.mv (C 0))])
 (.block 2
 (.loop
 (.seq (.seq (.reg [sm 18 6,so 19 (.bin .lss (T 18) (C 8))])
 (.cond (T 19)
 .skip
 (.exit 2)))
 (.seq (.block 3
 (.seq (.reg [sm 22 3,sm 23 5,so 24 (.bin .rem (T 23) (C 2)),so 25 (.bslice none [(T 24)]),so 26 (.app none 8 (T 22) (T 25)),sm 3 26])
 (.reg [sm 27 5,so 28 (.bin .quo (T 27) (C 2)),sm 5 28])))
 (.reg [sm 20 6,so 21 (.bin .add (T 20) (C 1)),sm 6 21]))))))))
 (.reg [sm 11 4,so 12 (.bin .add (T 11) (C 1)),sm 4 12]))))))
 (.seq (.reg [sm 29 3,sm 2 29])
 .ret))))
theorem ZkN:Zam Tryz.prog 30 (Tryz.f22.body.getD .skip)=Zgj:=by kernel_rfl
theorem ZkO:Zaf Tryz.prog Tryz.f22=some [.tmp 2]:=by kernel_rfl
def ZcS:SCode :=
 (.seq (.reg [so 4 (.mv (C 0))])
 (.seq (.seq (.reg [sm 5 0,so 6 (.nilc (T 5)),so 7 (.faddr 4 (T 6)),so 8 (.load none (T 7)),so 9 (.bin .neq (T 8) (C 0))])
 (.cond (T 9)
 (.seq (.reg [so 4 (.mv (C 0))])
 .ret)
 .skip))
 (.seq (.seq (.reg [sm 10 1,sm 11 0,so 12 (.nilc (T 11)),so 13 (.faddr 0 (T 12)),so 14 (.load none (T 13)),so 15 (.len false (T 14)),sm 16 0,so 17 (.nilc (T 16)),so 18 (.faddr 1 (T 17)),so 19 (.load none (T 18)),so 20 (.bin .sub (T 15) (T 19)),so 21 (.bin .gtr (T 10) (T 20))])
 (.cond (T 21)
 (.seq (.reg [sm 22 0,so 23 (.nilc (T 22)),so 24 (.faddr 4 (T 23)),sn (.store none (T 24) (C 2))])
 (.seq (.reg [so 4 (.mv (C 0))])
 .ret))
 .skip))
 (.seq (.reg [sm 25 0,sm 26 0,so 27 (.nilc (T 26)),so 28 (.faddr 1 (T 27)),so 29 (.load none (T 28)),sm 30 1,so 31 (.bin .add (T 29) (T 30)),so 32 (.nilc (T 25)),so 33 (.faddr 1 (T 32)),sn (.store none (T 33) (T 31))])
 (.seq (.reg [sm 34 0,so 35 (.nilc (T 34)),so 36 (.faddr 0 (T 35)),so 37 (.load none (T 36)),sm 38 0,so 39 (.nilc (T 38)),so 40 (.faddr 1 (T 39)),so 41 (.load none (T 40)),sm 42 1,so 43 (.bin .sub (T 41) (T 42)),sm 44 0,so 45 (.nilc (T 44)),so 46 (.faddr 1 (T 45)),so 47 (.load none (T 46)),so 48 (.sl none (T 37) (some (T 43)) (some (T 47))),so 49 (.call true Ze5 [(T 48)]),sm 4 49])
 .ret)))))
theorem Zgk:Zam Tryz.prog 50 (Tryz.f23.body.getD .skip)=ZcS:=by kernel_rfl
theorem Zgl:Zaf Tryz.prog Tryz.f23=some [.tmp 4]:=by kernel_rfl
def ZcT:SCode :=
 (.seq (.block 0
 (.loop
 (.seq (.seq (.reg [sm 5 0,so 6 (.nilc (T 5)),so 7 (.faddr 1 (T 6)),so 8 (.load none (T 7)),so 9 (.bin .rem (T 8) (C 8)),so 10 (.bin .neq (T 9) (C 0))])
 (.cond (T 10)
 .skip
 (.exit 0)))
 (.block 1
 (.reg [sm 11 0,sm 12 0,so 13 (.nilc (T 12)),so 14 (.faddr 1 (T 13)),so 15 (.load none (T 14)),so 16 (.bin .add (T 15) (C 1)),so 17 (.nilc (T 11)),so 18 (.faddr 1 (T 17)),sn (.store none (T 18) (T 16))])))))
 (.seq (.reg [sm 19 0,so 20 (.call true Zai [(T 19),(C 16)]),sm 2 20])
 (.seq (.reg [sm 21 0,so 22 (.call true Zai [(T 21),(C 16)]),sm 3 22])
 (.seq (.reg [sm 23 0,sm 24 3,sm 25 2,so 26 (.bin .sub (C 65535) (T 25)),so 27 (.bin .neq (T 24) (T 26)),so 28 (.call true Zat [(T 23),(T 27),(C 3)])])
 (.seq (.seq (.reg [sm 29 0,so 30 (.nilc (T 29)),so 31 (.faddr 4 (T 30)),so 32 (.load none (T 31)),so 33 (.bin .neq (T 32) (C 0))])
 (.cond (T 33)
 .ret
 .skip))
 (.seq (.seq (.reg [sm 34 2,so 35 (.bin .mul (C 8) (T 34)),sm 36 0,so 37 (.nilc (T 36)),so 38 (.faddr 0 (T 37)),so 39 (.load none (T 38)),so 40 (.len false (T 39)),sm 41 0,so 42 (.nilc (T 41)),so 43 (.faddr 1 (T 42)),so 44 (.load none (T 43)),so 45 (.bin .sub (T 40) (T 44)),so 46 (.bin .gtr (T 35) (T 45))])
 (.cond (T 46)
 (.seq (.reg [sm 47 0,so 48 (.nilc (T 47)),so 49 (.faddr 4 (T 48)),sn (.store none (T 49) (C 2))])
 .ret)
 .skip))
 (.seq (.seq (.reg [sm 50 2,sm 51 0,so 52 (.nilc (T 51)),so 53 (.faddr 3 (T 52)),so 54 (.load none (T 53)),sm 55 0,so 56 (.nilc (T 55)),so 57 (.faddr 2 (T 56)),so 58 (.load none (T 57)),so 59 (.len false (T 58)),so 60 (.bin .sub (T 54) (T 59)),so 61 (.bin .gtr (T 50) (T 60))])
 (.cond (T 61)
 (.seq (.reg [sm 62 0,so 63 (.nilc (T 62)),so 64 (.faddr 4 (T 63)),sn (.store none (T 64) (C 4))])
 .ret)
 .skip))
 (.seq (.reg [so 4 (.mv (C 0))])
 (.block 2
 (.loop
 (.seq (.seq (.reg [sm 65 4,sm 66 2,so 67 (.bin .lss (T 65) (T 66))])
 (.cond (T 67)
 .skip
 (.exit 2)))
 (.seq (.block 3
 (.reg3 [sm 70 0,sm 71 0,so 72 (.nilc (T 71)),so 73 (.faddr 2 (T 72)),so 74 (.load none (T 73)),sm 75 0,so 76 (.call true Zai [(T 75),(C 8)])]
 [(none,(T 73),74)]
 [so 77 (.ci .u8 (T 76)),so 78 (.bslice none [(T 77)]),so 79 (.app none 1 (T 74) (T 78)),so 80 (.nilc (T 70)),so 81 (.faddr 2 (T 80)),sn (.store none (T 81) (T 79))]))
 (.reg [sm 68 4,so 69 (.bin .add (T 68) (C 1)),sm 4 69])))))))))))))
theorem Zgm:Zam Tryz.prog 82 (Tryz.f24.body.getD .skip)=ZcT:=by kernel_rfl
theorem Zgn:Zaf Tryz.prog Tryz.f24=some []:=by kernel_rfl
def Zdc:SCode :=
 (.seq (.reg [so 4 (.box (T 1)),so 5 (.box (T 2))])
 (.block 0
 (.loop
 (.seq (.seq (.reg [sm 11 0,so 12 (.nilc (T 11)),so 13 (.faddr 4 (T 12)),so 14 (.load none (T 13)),so 15 (.bin .eql (T 14) (C 0))])
 (.cond (T 15)
 .skip
 (.exit 0)))
 (.block 1
 (.seq (.reg [sm 16 0,so 17 (.load (some 2) (T 4)),so 18 (.call true Zbo [(T 16),(T 17)]),sm 6 18])
 (.seq (.seq (.reg [sm 19 0,so 20 (.nilc (T 19)),so 21 (.faddr 4 (T 20)),so 22 (.load none (T 21)),so 23 (.bin .neq (T 22) (C 0)),sm 24 23,sg 25 (.mv (T 6)) 24 false,sg 26 (.bin .eql (T 25) (C 256)) 24 false,so 27 (.pick (T 24) (.const (.bool true)) (T 26))])
 (.cond (T 27)
 .ret
 .skip))
 (.seq (.seq (.reg [sm 28 6,so 29 (.bin .lss (T 28) (C 256))])
 (.cond (T 29)
 (.seq (.reg [sm 30 0,sm 31 0,so 32 (.nilc (T 31)),so 33 (.faddr 2 (T 32)),so 34 (.load none (T 33)),so 35 (.len false (T 34)),sm 36 0,so 37 (.nilc (T 36)),so 38 (.faddr 3 (T 37)),so 39 (.load none (T 38)),so 40 (.bin .geq (T 35) (T 39)),so 41 (.call true Zat [(T 30),(T 40),(C 4)])])
 (.seq (.reg [sm 42 0,sm 43 0,so 44 (.nilc (T 43)),so 45 (.faddr 2 (T 44)),so 46 (.load none (T 45)),sm 47 6,so 48 (.ci .u8 (T 47)),so 49 (.bslice none [(T 48)]),so 50 (.app none 1 (T 46) (T 49)),so 51 (.nilc (T 42)),so 52 (.faddr 2 (T 51)),sn (.store none (T 52) (T 50))])
 (.exit 1)))
 .skip))
 (.seq (.reg [sm 53 0,sm 54 6,so 55 (.bin .gtr (T 54) (C 285)),so 56 (.call true Zat [(T 53),(T 55),(C 3)])])
 (.seq (.seq (.reg [sm 57 0,so 58 (.nilc (T 57)),so 59 (.faddr 4 (T 58)),so 60 (.load none (T 59)),so 61 (.bin .neq (T 60) (C 0))])
 (.cond (T 61)
 .ret
 .skip))
 (.seq (.reg [sm 62 0,sm 63 6,so 64 (.call true ZcP [(T 62),(T 63)]),sm 7 64])
 (.seq (.reg [sm 65 0,so 66 (.load (some 2) (T 5)),so 67 (.call true Zbo [(T 65),(T 66)]),sm 8 67])
 (.seq (.reg [sm 68 0,sm 69 8,so 70 (.bin .gtr (T 69) (C 29)),so 71 (.call true Zat [(T 68),(T 70),(C 3)])])
 (.seq (.seq (.reg [sm 72 0,so 73 (.nilc (T 72)),so 74 (.faddr 4 (T 73)),so 75 (.load none (T 74)),so 76 (.bin .neq (T 75) (C 0))])
 (.cond (T 76)
 .ret
 .skip))
 (.seq (.reg [sm 77 0,sm 78 8,so 79 (.call true Zcw [(T 77),(T 78)]),sm 9 79])
 (.seq (.reg [sm 80 0,sm 81 9,sm 82 0,so 83 (.nilc (T 82)),so 84 (.faddr 2 (T 83)),so 85 (.load none (T 84)),so 86 (.len false (T 85)),so 87 (.bin .gtr (T 81) (T 86)),so 88 (.call true Zat [(T 80),(T 87),(C 3)])])
 (.seq (.reg [sm 89 0,sm 90 7,sm 91 0,so 92 (.nilc (T 91)),so 93 (.faddr 3 (T 92)),so 94 (.load none (T 93)),sm 95 0,so 96 (.nilc (T 95)),so 97 (.faddr 2 (T 96)),so 98 (.load none (T 97)),so 99 (.len false (T 98)),so 100 (.bin .sub (T 94) (T 99)),so 101 (.bin .gtr (T 90) (T 100)),so 102 (.call true Zat [(T 89),(T 101),(C 4)])])
 (.seq (.reg [so 10 (.mv (C 0))])
 (.block 2
 (.loop
 (.seq (.seq (.reg [sm 103 10,sm 104 7,so 105 (.bin .lss (T 103) (T 104)),sm 106 105,sg 107 (.mv (T 0)) 106 true,sg 108 (.nilc (T 107)) 106 true,sg 109 (.faddr 4 (T 108)) 106 true,sg 110 (.load none (T 109)) 106 true,sg 111 (.bin .eql (T 110) (C 0)) 106 true,so 112 (.pick (T 106) (T 111) (.const (.bool false)))])
 (.cond (T 112)
 .skip
 (.exit 2)))
 (.seq (.block 3
 (.reg [sm 115 0,sm 116 0,so 117 (.nilc (T 116)),so 118 (.faddr 2 (T 117)),so 119 (.load none (T 118)),sm 120 0,so 121 (.nilc (T 120)),so 122 (.faddr 2 (T 121)),so 123 (.load none (T 122)),sm 124 0,so 125 (.nilc (T 124)),so 126 (.faddr 2 (T 125)),so 127 (.load none (T 126)),so 128 (.len false (T 127)),sm 129 9,so 130 (.bin .sub (T 128) (T 129)),so 131 (.iaddr none (T 123) (T 130)),so 132 (.load none (T 131)),so 133 (.bslice none [(T 132)]),so 134 (.app none 1 (T 119) (T 133)),so 135 (.nilc (T 115)),so 136 (.faddr 2 (T 135)),sn (.store none (T 136) (T 134))]))
 (.reg [sm 113 10,so 114 (.bin .add (T 113) (C 1)),sm 10 114])))))))))))))))))))))))
theorem ZgK:Zam Tryz.prog 137 (Tryz.f25.body.getD .skip)=Zdc:=by kernel_rfl
theorem ZgL:Zaf Tryz.prog Tryz.f25=some []:=by kernel_rfl
def Zfy:SCode :=
 (.seq (.reg [so 0 (.alloc [(.slice none 0 0),(.slice none 0 0)])])
 (.seq (.reg [so 2 (.call true ZaN [(C 8),(C 144)]),so 3 (.call true ZaN [(C 9),(C 112)]),so 4 (.app none 8 (T 2) (T 3)),sm 1 4])
 (.seq (.reg [sm 5 1,so 6 (.call true ZaN [(C 7),(C 24)]),so 7 (.app none 8 (T 5) (T 6)),sm 1 7])
 (.seq (.reg [sm 8 1,so 9 (.call true ZaN [(C 8),(C 8)]),so 10 (.app none 8 (T 8) (T 9)),so 11 (.call true Zbu [(T 10)]),sn (.store (some 2) (T 0) (T 11))])
 .ret))))
theorem Zj6:Zam Tryz.prog 12 (Tryz.f26.body.getD .skip)=Zfy:=by kernel_rfl
theorem Zj7:Zaf Tryz.prog Tryz.f26=some [.cell 0 (some 2)]:=by kernel_rfl
def Zgo:SCode :=
 (.seq (.reg [so 2 (.alloc [(.slice none 0 0),(.slice none 0 0)])])
 (.seq (.reg [sm 6 0,so 7 (.call true Zdn [(T 6)]),sm 5 7,so 8 (.ext (T 5) 0),so 9 (.ext (T 5) 1),sm 3 8,sm 4 9])
 (.seq (.reg [sm 10 0,sm 11 3,so 12 (.build [(.slice none 0 0),(.slice none 0 0)] [(0,1,(T 10)),(1,1,(T 11))]),sn (.store (some 2) (T 2) (T 12))])
 .ret)))
theorem ZkP:Zam Tryz.prog 13 (Tryz.f27.body.getD .skip)=Zgo:=by kernel_rfl
theorem ZkQ:Zaf Tryz.prog Tryz.f27=some [.cell 2 (some 2)]:=by kernel_rfl
def Zfz:SCode :=
 (.seq (.reg [so 4 (.mv (.const (.slice none 0 0)))])
 (.seq (.reg [so 5 (.mv (.const (.slice none 0 0)))])
 (.seq (.seq (.reg [so 6 (.mv (C 0))])
 (.block 0
 (.loop
 (.seq (.seq (.reg [sm 7 6,sm 8 1,so 9 (.bin .lss (T 7) (T 8))])
 (.cond (T 9)
 .skip
 (.exit 0)))
 (.seq (.block 1
 (.reg [sm 12 5,sm 13 0,so 14 (.bslice none [(T 13)]),so 15 (.app none 8 (T 12) (T 14)),sm 5 15]))
 (.reg [sm 10 6,so 11 (.bin .add (T 10) (C 1)),sm 6 11]))))))
 (.seq (.reg [sm 16 5,sm 4 16])
 .ret))))
theorem Zj8:Zam Tryz.prog 17 (Tryz.f28.body.getD .skip)=Zfz:=by kernel_rfl
theorem Zj9:Zaf Tryz.prog Tryz.f28=some [.tmp 4]:=by kernel_rfl
def Zdw:SCode :=
 (.seq (.reg [sm 16 0,so 17 (.call true Zai [(T 16),(C 5)]),so 18 (.bin .add (T 17) (C 257)),sm 2 18])
 (.seq (.reg [sm 19 0,so 20 (.call true Zai [(T 19),(C 5)]),so 21 (.bin .add (T 20) (C 1)),sm 3 21])
 (.seq (.reg [sm 22 0,so 23 (.call true Zai [(T 22),(C 4)]),so 24 (.bin .add (T 23) (C 4)),sm 4 24])
 (.seq (.reg [sm 25 0,sm 26 2,so 27 (.bin .gtr (T 26) (C 286)),sm 28 27,sg 29 (.mv (T 3)) 28 false,sg 30 (.bin .gtr (T 29) (C 30)) 28 false,so 31 (.pick (T 28) (.const (.bool true)) (T 30)),so 32 (.call true Zat [(T 25),(T 31),(C 3)])])
 (.seq (.reg [so 33 (.bsl none [(C 16),(C 17),(C 18),(C 0),(C 8),(C 7),(C 9),(C 6),(C 10),(C 5),(C 11),(C 4),(C 12),(C 3),(C 13),(C 2),(C 14),(C 1),(C 15)]),sm 5 33])
 (.seq (.reg [so 34 (.call true ZaN [(C 0),(C 19)]),sm 6 34])
 (.seq (.seq (.reg [so 7 (.mv (C 0))])
 (.block 0
 (.loop
 (.seq (.seq (.reg [sm 35 7,sm 36 4,so 37 (.bin .lss (T 35) (T 36))])
 (.cond (T 37)
 .skip
 (.exit 0)))
 (.seq (.block 1
 (.reg3 [sm 40 6,sm 41 5,sm 42 7,so 43 (.iaddr none (T 41) (T 42)),so 44 (.load none (T 43)),sm 45 0,so 46 (.call true Zai [(T 45),(C 3)])]
 [(none,(T 43),44)]
 [so 47 (.iaddr none (T 40) (T 44)),sn (.store none (T 47) (T 46))]))
 (.reg [sm 38 7,so 39 (.bin .add (T 38) (C 1)),sm 7 39]))))))
 (.seq (.reg [sm 48 0,sm 49 6,so 50 (.call true ZbU [(T 49)]),so 51 (.un .not (T 50)),so 52 (.call true Zat [(T 48),(T 51),(C 3)])])
 (.seq (.seq (.reg [sm 53 0,so 54 (.nilc (T 53)),so 55 (.faddr 4 (T 54)),so 56 (.load none (T 55)),so 57 (.bin .neq (T 56) (C 0))])
 (.cond (T 57)
 .ret
 .skip))
 (.seq (.reg [sm 58 6,so 59 (.call true Zbu [(T 58)]),so 8 (.alloc [(.slice none 0 0),(.slice none 0 0)]),sn (.store (some 2) (T 8) (T 59))])
 (.seq (.reg [so 9 (.mv (.const (.slice none 0 0)))])
 (.seq (.block 2
 (.loop
 (.seq (.seq (.reg [sm 60 9,so 61 (.len false (T 60)),sm 62 2,sm 63 3,so 64 (.bin .add (T 62) (T 63)),so 65 (.bin .lss (T 61) (T 64)),sm 66 65,sg 67 (.mv (T 0)) 66 true,sg 68 (.nilc (T 67)) 66 true,sg 69 (.faddr 4 (T 68)) 66 true,sg 70 (.load none (T 69)) 66 true,sg 71 (.bin .eql (T 70) (C 0)) 66 true,so 72 (.pick (T 66) (T 71) (.const (.bool false)))])
 (.cond (T 72)
 .skip
 (.exit 2)))
 (.block 3
 (.seq (.reg [sm 73 0,so 74 (.load (some 2) (T 8)),so 75 (.call true Zbo [(T 73),(T 74)]),sm 10 75])
 (.seq (.reg [sm 76 10,sm 11 76])
 (.seq (.reg [so 12 (.mv (C 1))])
 (.seq (.seq (.reg [sm 77 10,so 78 (.bin .eql (T 77) (C 16))])
 (.cond (T 78)
 (.seq (.reg [sm 79 0,sm 80 9,so 81 (.len false (T 80)),so 82 (.bin .eql (T 81) (C 0)),so 83 (.call true Zat [(T 79),(T 82),(C 3)])])
 (.seq (.reg [so 11 (.mv (C 0))])
 (.seq (.seq (.reg [sm 84 9,so 85 (.len false (T 84)),so 86 (.bin .gtr (T 85) (C 0))])
 (.cond (T 86)
 (.reg [sm 87 9,sm 88 9,so 89 (.len false (T 88)),so 90 (.bin .sub (T 89) (C 1)),so 91 (.iaddr none (T 87) (T 90)),so 92 (.load none (T 91)),sm 11 92])
 .skip))
 (.reg [sm 93 0,so 94 (.call true Zai [(T 93),(C 2)]),so 95 (.bin .add (C 3) (T 94)),sm 12 95]))))
 .skip))
 (.seq (.seq (.reg [sm 96 10,so 97 (.bin .eql (T 96) (C 17))])
 (.cond (T 97)
 (.seq (.reg [so 11 (.mv (C 0))])
 (.reg [sm 98 0,so 99 (.call true Zai [(T 98),(C 3)]),so 100 (.bin .add (C 3) (T 99)),sm 12 100]))
 .skip))
 (.seq (.seq (.reg [sm 101 10,so 102 (.bin .eql (T 101) (C 18))])
 (.cond (T 102)
 (.seq (.reg [so 11 (.mv (C 0))])
 (.reg [sm 103 0,so 104 (.call true Zai [(T 103),(C 7)]),so 105 (.bin .add (C 11) (T 104)),sm 12 105]))
 .skip))
 (.seq (.reg [sm 106 0,sm 107 12,sm 108 2,sm 109 3,so 110 (.bin .add (T 108) (T 109)),sm 111 9,so 112 (.len false (T 111)),so 113 (.bin .sub (T 110) (T 112)),so 114 (.bin .gtr (T 107) (T 113)),so 115 (.call true Zat [(T 106),(T 114),(C 3)])])
 (.reg [sm 116 9,sm 117 11,sm 118 12,so 119 (.call true ZaN [(T 117),(T 118)]),so 120 (.app none 8 (T 116) (T 119)),sm 9 120]))))))))))))
 (.seq (.seq (.reg [sm 121 0,so 122 (.nilc (T 121)),so 123 (.faddr 4 (T 122)),so 124 (.load none (T 123)),so 125 (.bin .neq (T 124) (C 0))])
 (.cond (T 125)
 .ret
 .skip))
 (.seq (.reg [so 13 (.mv (C 0))])
 (.seq (.reg [so 14 (.mv (C 0))])
 (.seq (.seq (.reg [sm 126 2,sm 15 126])
 (.block 4
 (.loop
 (.seq (.seq (.reg [sm 127 15,sm 128 2,sm 129 3,so 130 (.bin .add (T 128) (T 129)),so 131 (.bin .lss (T 127) (T 130))])
 (.cond (T 131)
 .skip
 (.exit 4)))
 (.seq (.block 5
 (.seq (.seq (.reg [sm 134 9,sm 135 15,so 136 (.iaddr none (T 134) (T 135)),so 137 (.load none (T 136)),so 138 (.bin .gtr (T 137) (C 0))])
 (.cond (T 138)
 (.reg [sm 139 13,so 140 (.bin .add (T 139) (C 1)),sm 13 140])
 .skip))
 (.seq (.reg [sm 141 9,sm 142 15,so 143 (.iaddr none (T 141) (T 142)),so 144 (.load none (T 143)),sm 145 14,so 146 (.bin .gtr (T 144) (T 145))])
 (.cond (T 146)
 (.reg [sm 147 9,sm 148 15,so 149 (.iaddr none (T 147) (T 148)),so 150 (.load none (T 149)),sm 14 150])
 .skip))))
 (.reg [sm 132 15,so 133 (.bin .add (T 132) (C 1)),sm 15 133]))))))
 (.seq (.seq (.reg [sm 151 9,so 152 (.iaddr none (T 151) (C 256)),so 153 (.load none (T 152)),so 154 (.bin .eql (T 153) (C 0)),sm 155 154,sg 156 (.mv (T 9)) 155 false,sg 157 (.mv (T 2)) 155 false,sg 158 (.sl none (T 156) none (some (T 157))) 155 false,sg 159 (.call true ZbU [(T 158)]) 155 false,sg 160 (.un .not (T 159)) 155 false,so 161 (.pick (T 155) (.const (.bool true)) (T 160)),sm 162 161,sg 163 (.mv (T 9)) 162 false,sg 164 (.mv (T 2)) 162 false,sg 165 (.sl none (T 163) (some (T 164)) none) 162 false,sg 166 (.call true ZbU [(T 165)]) 162 false,sg 167 (.un .not (T 166)) 162 false,sg 168 (.mv (T 167)) 162 false,sg 169 (.mv (T 13)) 168 true,sg 170 (.bin .gtr (T 169) (C 1)) 168 true,sg 171 (.mv (T 170)) 168 true,sg 172 (.mv (T 14)) 171 false,sg 173 (.bin .gtr (T 172) (C 1)) 171 false,sg 174 (.pick (T 171) (.const (.bool true)) (T 173)) 168 true,sg 175 (.pick (T 168) (T 174) (.const (.bool false))) 162 false,so 176 (.pick (T 162) (.const (.bool true)) (T 175))])
 (.cond (T 176)
 (.seq (.reg [sm 177 0,so 178 (.nilc (T 177)),so 179 (.faddr 4 (T 178)),sn (.store none (T 179) (C 3))])
 .ret)
 .skip))
 (.reg [sm 180 0,sm 181 9,sm 182 2,so 183 (.sl none (T 181) none (some (T 182))),so 184 (.call true Zbu [(T 183)]),sm 185 9,sm 186 2,so 187 (.sl none (T 185) (some (T 186)) none),so 188 (.call true Zbu [(T 187)]),so 189 (.call true Zb1 [(T 180),(T 184),(T 188)])]))))))))))))))))))
theorem Zhh:Zam Tryz.prog 190 (Tryz.f29.body.getD .skip)=Zdw:=by kernel_rfl
theorem Zhi:Zaf Tryz.prog Tryz.f29=some []:=by kernel_rfl
def Zea:SCode :=
 (.seq (.reg [so 4 (.mv (C 0)),so 5 (.mv (.const (.bool false)))])
 (.seq (.seq (.reg [sm 8 1,so 9 (.bin .lss (T 8) (C 0)),sm 10 9,sg 11 (.mv (T 1)) 10 false,sg 12 (.bin .gtr (T 11) (C 24)) 10 false,so 13 (.pick (T 10) (.const (.bool true)) (T 12)),sm 14 13,sg 15 (.mv (T 1)) 14 false,sg 16 (.mv (T 0)) 14 false,sg 17 (.call true ZcF [(T 16)]) 14 false,sg 18 (.bin .gtr (T 15) (T 17)) 14 false,so 19 (.pick (T 14) (.const (.bool true)) (T 18))])
 (.cond (T 19)
 (.seq (.reg [so 4 (.mv (C 0)),so 5 (.mv (.const (.bool false)))])
 .ret)
 .skip))
 (.seq (.reg [so 6 (.mv (C 0))])
 (.seq (.seq (.reg [sm 20 1,so 21 (.mv (C 0))])
 (.block 0
 (.loop
 (.seq (.reg [so 22 (.bin .lss (T 21) (T 20))])
 (.seq (.cond (T 22)
 .skip
 (.exit 0))
 (.seq (.block 1
 (.seq (.reg [sm 23 21,sm 7 23])
 (.reg [sm 24 6,sm 25 0,so 26 (.call true ZeR [(T 25)]),sm 27 7,so 28 (.bin .shl (T 26) (T 27)),so 29 (.bin .or (T 24) (T 28)),sm 6 29])))
 (.reg [so 30 (.bin .add (T 21) (C 1)),sm 21 30])))))))
 (.seq (.reg [sm 31 6,sm 4 31,so 5 (.mv (.const (.bool true)))])
 .ret)))))
theorem Zg1:Zam Tryz.prog 32 (Tryz.f43.body.getD .skip)=Zea:=by kernel_rfl
theorem Zg2:Zaf Tryz.prog Tryz.f43=some [.tmp 4,.tmp 5]:=by kernel_rfl
def Zdx:SCode :=
 (.seq (.reg [so 2 (.mv (C 0))])
 (.seq (.reg [sm 7 0,so 8 (.nilc (T 7)),so 9 (.faddr 0 (T 8)),so 10 (.load none (T 9)),so 11 (.call true ZdL [(T 10)])])
 (.seq (.reg [sm 13 0,so 14 (.nilc (T 13)),so 15 (.faddr 0 (T 14)),so 16 (.load none (T 15)),so 17 (.call true Za1 [(T 16),(C 16)]),sm 12 17,so 18 (.ext (T 12) 0),so 19 (.ext (T 12) 1),sm 3 18,sm 4 19])
 (.seq (.seq (.reg [sm 20 4,so 21 (.un .not (T 20))])
 (.cond (T 21)
 (.seq (.reg [so 2 (.mv (C 2))])
 .ret)
 .skip))
 (.seq (.reg [sm 23 0,so 24 (.nilc (T 23)),so 25 (.faddr 0 (T 24)),so 26 (.load none (T 25)),so 27 (.call true Za1 [(T 26),(C 16)]),sm 22 27,so 28 (.ext (T 22) 0),so 29 (.ext (T 22) 1),sm 5 28,sm 4 29])
 (.seq (.seq (.reg [sm 30 4,so 31 (.un .not (T 30))])
 (.cond (T 31)
 (.seq (.reg [so 2 (.mv (C 2))])
 .ret)
 .skip))
 (.seq (.seq (.reg [sm 32 3,sm 33 5,so 34 (.bin .add (T 32) (T 33)),so 35 (.bin .neq (T 34) (C 65535))])
 (.cond (T 35)
 (.seq (.reg [so 2 (.mv (C 3))])
 .ret)
 .skip))
 (.seq (.reg [sm 37 0,so 38 (.nilc (T 37)),so 39 (.faddr 0 (T 38)),so 40 (.load none (T 39)),sm 41 3,so 42 (.call true ZdM [(T 40),(T 41)]),sm 36 42,so 43 (.ext (T 36) 0),so 44 (.ext (T 36) 1),sm 6 43,sm 4 44])
 (.seq (.seq (.reg [sm 45 4,so 46 (.un .not (T 45))])
 (.cond (T 46)
 (.seq (.reg [so 2 (.mv (C 2))])
 .ret)
 .skip))
 (.seq (.seq (.reg [sm 47 3,sm 48 0,so 49 (.call true ZbM [(T 48)]),so 50 (.bin .gtr (T 47) (T 49))])
 (.cond (T 50)
 (.seq (.reg [so 2 (.mv (C 4))])
 .ret)
 .skip))
 (.seq (.reg [sm 51 0,sm 52 0,so 53 (.nilc (T 52)),so 54 (.faddr 1 (T 53)),so 55 (.load none (T 54)),sm 56 6,so 57 (.app none 1 (T 55) (T 56)),so 58 (.nilc (T 51)),so 59 (.faddr 1 (T 58)),sn (.store none (T 59) (T 57))])
 (.seq (.reg [so 2 (.mv (C 0))])
 .ret))))))))))))
theorem Zhj:Zam Tryz.prog 60 (Tryz.f44.body.getD .skip)=Zdx:=by kernel_rfl
theorem Zhk:Zaf Tryz.prog Tryz.f44=some [.tmp 2]:=by kernel_rfl
def ZfA:SCode :=
 (.seq (.reg [so 0 (.mv (.const (.pointer none)))])
 (.seq (.reg [so 6 (.bsl none [(C 8)]),so 7 (.call true Zay [(T 6),(C 144)]),so 8 (.bsl none [(C 9)]),so 9 (.call true Zay [(T 8),(C 112)]),so 10 (.bsl none [(C 7)]),so 11 (.call true Zay [(T 10),(C 24)]),so 12 (.bsl none [(C 8)]),so 13 (.call true Zay [(T 12),(C 8)]),so 14 (.bslice none [(T 7),(T 9),(T 11),(T 13)]),so 15 (.call true Zbf [(T 14)]),so 16 (.call true Zcc [(T 15)]),sm 5 16,so 17 (.ext (T 5) 0),so 18 (.ext (T 5) 1),sm 1 17,sm 2 18])
 (.seq (.reg [so 20 (.bsl none [(C 5)]),so 21 (.call true Zay [(T 20),(C 32)]),so 22 (.call true Zcc [(T 21)]),sm 19 22,so 23 (.ext (T 19) 0),so 24 (.ext (T 19) 1),sm 3 23,sm 4 24])
 (.seq (.reg [sm 25 1,sm 26 3,so 27 (.build [(.pointer none),(.pointer none)] [(0,1,(T 25)),(1,1,(T 26))]),so 28 (.box (T 27)),sm 0 28])
 .ret))))
theorem Zka:Zam Tryz.prog 29 (Tryz.f45.body.getD .skip)=ZfA:=by kernel_rfl
theorem Zkb:Zaf Tryz.prog Tryz.f45=some [.tmp 0]:=by kernel_rfl
def Zdd:SCode :=
 (.seq (.reg [so 4 (.mv (C 0))])
 (.block 0
 (.loop
 (.block 1
 (.seq (.reg [sm 8 1,so 9 (.nilc (T 8)),so 10 (.faddr 0 (T 9)),so 11 (.load none (T 10)),sm 12 0,so 13 (.nilc (T 12)),so 14 (.faddr 0 (T 13)),so 15 (.load none (T 14)),so 16 (.call true ZdH [(T 11),(T 15)]),sm 7 16,so 17 (.ext (T 7) 0),so 18 (.ext (T 7) 1),sm 5 17,sm 6 18])
 (.seq (.block 2
 (.seq (.reg [sm 29 6,so 30 (.bin .neq (T 29) (C 0)),sm 28 30])
 (.cond (T 28)
 (.seq (.reg [sm 31 6,sm 4 31])
 .ret)
 (.seq (.reg [sm 33 5,so 34 (.bin .lss (T 33) (C 256)),sm 32 34])
 (.cond (T 32)
 (.reg [sm 35 0,sm 36 5,so 37 (.ci .u8 (T 36)),so 38 (.call true Zb2 [(T 35),(T 37)]),sm 6 38])
 (.seq (.reg [sm 40 5,so 41 (.bin .eql (T 40) (C 256)),sm 39 41])
 (.cond (T 39)
 (.seq (.reg [so 4 (.mv (C 0))])
 .ret)
 (.reg [sm 19 0,sm 20 5,so 21 (.bin .sub (T 20) (C 256)),so 22 (.bin .sub (T 21) (C 1)),sm 23 1,so 24 (.nilc (T 23)),so 25 (.faddr 1 (T 24)),so 26 (.load none (T 25)),so 27 (.call true ZeB [(T 19),(T 22),(T 26)]),sm 6 27]))))))))
 (.seq (.reg [sm 42 6,so 43 (.bin .neq (T 42) (C 0))])
 (.cond (T 43)
 (.seq (.reg [sm 44 6,sm 4 44])
 .ret)
 .skip))))))))
theorem ZgM:Zam Tryz.prog 45 (Tryz.f46.body.getD .skip)=Zdd:=by kernel_rfl
theorem ZgN:Zaf Tryz.prog Tryz.f46=some [.tmp 4]:=by kernel_rfl
def ZcH:SCode :=
 (.seq (.reg [so 2 (.mv (.const (.pointer none))),so 3 (.mv (C 0))])
 (.seq (.reg [sm 12 0,so 13 (.nilc (T 12)),so 14 (.faddr 0 (T 13)),so 15 (.load none (T 14)),so 16 (.call true Za1 [(T 15),(C 14)]),sm 11 16,so 17 (.ext (T 11) 0),so 18 (.ext (T 11) 1),sm 4 17,sm 5 18])
 (.seq (.seq (.reg [sm 19 5,so 20 (.un .not (T 19))])
 (.cond (T 20)
 (.seq (.reg [so 2 (.mv (.const (.pointer none))),so 3 (.mv (C 2))])
 .ret)
 .skip))
 (.seq (.reg [sm 21 4,so 22 (.bin .and (T 21) (C 31)),so 23 (.bin .add (T 22) (C 257)),sm 24 4,so 25 (.bin .shr (T 24) (.const (.int .u64 (5)))),so 26 (.bin .and (T 25) (C 31)),so 27 (.bin .add (T 26) (C 1)),sm 6 23,sm 7 27])
 (.seq (.seq (.reg [sm 28 6,so 29 (.bin .gtr (T 28) (C 286)),sm 30 29,sg 31 (.mv (T 7)) 30 false,sg 32 (.bin .gtr (T 31) (C 30)) 30 false,so 33 (.pick (T 30) (.const (.bool true)) (T 32))])
 (.cond (T 33)
 (.seq (.reg [so 2 (.mv (.const (.pointer none))),so 3 (.mv (C 3))])
 .ret)
 .skip))
 (.seq (.reg [sm 35 0,sm 36 4,so 37 (.bin .shr (T 36) (.const (.int .u64 (10)))),so 38 (.bin .add (T 37) (C 4)),so 39 (.call true Zdv [(T 35),(T 38)]),sm 34 39,so 40 (.ext (T 34) 0),so 41 (.ext (T 34) 1),sm 8 40,sm 9 41])
 (.seq (.seq (.reg [sm 42 9,so 43 (.bin .neq (T 42) (C 0))])
 (.cond (T 43)
 (.seq (.reg [sm 44 9,so 2 (.mv (.const (.pointer none))),sm 3 44])
 .ret)
 .skip))
 (.seq (.reg [sm 46 0,sm 47 8,sm 48 6,sm 49 7,so 50 (.bin .add (T 48) (T 49)),so 51 (.call true Zdb [(T 46),(T 47),(T 50)]),sm 45 51,so 52 (.ext (T 45) 0),so 53 (.ext (T 45) 1),sm 10 52,sm 9 53])
 (.seq (.seq (.reg [sm 54 9,so 55 (.bin .neq (T 54) (C 0))])
 (.cond (T 55)
 (.seq (.reg [sm 56 9,so 2 (.mv (.const (.pointer none))),sm 3 56])
 .ret)
 .skip))
 (.seq (.reg [sm 57 10,sm 58 6,so 59 (.sl none (T 57) none (some (T 58))),sm 60 10,sm 61 6,so 62 (.sl none (T 60) (some (T 61)) none),so 63 (.call true ZhF [(T 59),(T 62)]),so 64 (.ext (T 63) 0),so 65 (.ext (T 63) 1),sm 2 64,sm 3 65])
 .ret))))))))))
theorem ZfO:Zam Tryz.prog 66 (Tryz.f47.body.getD .skip)=ZcH:=by kernel_rfl
theorem ZfP:Zaf Tryz.prog Tryz.f47=some [.tmp 2,.tmp 3]:=by kernel_rfl
def Ze6:SCode :=
 (.seq (.reg [so 2 (.mv (C 0))])
 (.seq (.reg [so 3 (.mv (C 0))])
 (.seq (.seq (.reg [sm 5 0,so 6 (.len false (T 5)),so 7 (.bin .sub (T 6) (C 1)),sm 4 7])
 (.block 0
 (.loop
 (.seq (.seq (.reg [sm 8 4,so 9 (.bin .geq (T 8) (C 0))])
 (.cond (T 9)
 .skip
 (.exit 0)))
 (.seq (.block 1
 (.reg [sm 12 3,so 13 (.bin .mul (C 2) (T 12)),sm 14 0,sm 15 4,so 16 (.iaddr none (T 14) (T 15)),so 17 (.load none (T 16)),so 18 (.bin .add (T 13) (T 17)),sm 3 18]))
 (.reg [sm 10 4,so 11 (.bin .sub (T 10) (C 1)),sm 4 11]))))))
 (.seq (.reg [sm 19 3,sm 2 19])
 .ret))))
theorem Zji:Zam Tryz.prog 20 (Tryz.f48.body.getD .skip)=Ze6:=by kernel_rfl
theorem Zjj:Zaf Tryz.prog Tryz.f48=some [.tmp 2]:=by kernel_rfl
def ZdY:SCode :=
 (.seq (.reg [sm 6 1,sm 7 6,sg 8 (.mv (T 0)) 7 true,sg 9 (.nilc (T 8)) 7 true,sg 10 (.faddr 4 (T 9)) 7 true,sg 11 (.load none (T 10)) 7 true,sg 12 (.bin .eql (T 11) (C 0)) 7 true,so 13 (.pick (T 7) (T 12) (.const (.bool false)))])
 (.cond (T 13)
 (.reg [sm 14 0,sm 15 2,so 16 (.nilc (T 14)),so 17 (.faddr 4 (T 16)),sn (.store none (T 17) (T 15))])
 .skip))
theorem ZhJ:Zam Tryz.prog 18 (Tryz.f49.body.getD .skip)=ZdY:=by kernel_rfl
theorem ZhK:Zaf Tryz.prog Tryz.f49=some []:=by kernel_rfl
def ZcU:SCode :=
 (.seq (.reg [so 3 (.box (T 1)),so 4 (.mv (C 0))])
 (.seq (.seq (.reg [sm 7 0,so 8 (.nilc (T 7)),so 9 (.faddr 4 (T 8)),so 10 (.load none (T 9)),so 11 (.bin .neq (T 10) (C 0))])
 (.cond (T 11)
 (.seq (.reg [so 4 (.mv (C 0))])
 .ret)
 .skip))
 (.seq (.reg [sm 12 0,so 13 (.nilc (T 12)),so 14 (.faddr 1 (T 13)),so 15 (.load none (T 14)),so 16 (.bin .add (T 15) (C 15)),sm 5 16])
 (.seq (.seq (.reg [sm 17 5,sm 18 0,so 19 (.nilc (T 18)),so 20 (.faddr 0 (T 19)),so 21 (.load none (T 20)),so 22 (.len false (T 21)),so 23 (.bin .gtr (T 17) (T 22))])
 (.cond (T 23)
 (.reg [sm 24 0,so 25 (.nilc (T 24)),so 26 (.faddr 0 (T 25)),so 27 (.load none (T 26)),so 28 (.len false (T 27)),sm 5 28])
 .skip))
 (.seq (.reg [so 29 (.faddr 0 (T 3)),so 30 (.load none (T 29)),so 31 (.faddr 1 (T 3)),so 32 (.load none (T 31)),sm 33 0,so 34 (.nilc (T 33)),so 35 (.faddr 0 (T 34)),so 36 (.load none (T 35)),sm 37 0,so 38 (.nilc (T 37)),so 39 (.faddr 1 (T 38)),so 40 (.load none (T 39)),sm 41 5,so 42 (.sl none (T 36) (some (T 40)) (some (T 41))),so 43 (.call true Zge [(T 30),(T 32),(T 42)]),so 6 (.alloc [(.int .i64 (0)),(.slice none 0 0),(.int .i64 (0))]),sn (.store (some 3) (T 6) (T 43))])
 (.seq (.seq (.reg [so 44 (.faddr 2 (T 6)),so 45 (.load none (T 44)),so 46 (.bin .neq (T 45) (C 0))])
 (.cond (T 46)
 (.seq (.reg [sm 47 0,so 48 (.faddr 2 (T 6)),so 49 (.load none (T 48)),so 50 (.nilc (T 47)),so 51 (.faddr 4 (T 50)),sn (.store none (T 51) (T 49))])
 (.seq (.reg [so 4 (.mv (C 0))])
 .ret))
 .skip))
 (.seq (.reg [sm 52 0,sm 53 0,so 54 (.nilc (T 53)),so 55 (.faddr 1 (T 54)),so 56 (.load none (T 55)),so 57 (.faddr 0 (T 3)),so 58 (.load none (T 57)),so 59 (.faddr 0 (T 6)),so 60 (.load none (T 59)),so 61 (.iaddr none (T 58) (T 60)),so 62 (.load none (T 61)),so 63 (.bin .add (T 56) (T 62)),so 64 (.nilc (T 52)),so 65 (.faddr 1 (T 64)),sn (.store none (T 65) (T 63))])
 (.seq (.reg [so 66 (.faddr 0 (T 6)),so 67 (.load none (T 66)),sm 4 67])
 .ret))))))))
theorem Zgp:Zam Tryz.prog 68 (Tryz.f50.body.getD .skip)=ZcU:=by kernel_rfl
theorem Zgq:Zaf Tryz.prog Tryz.f50=some [.tmp 4]:=by kernel_rfl
def ZcV:SCode :=
 (.seq (.reg [so 4 (.mv (C 0))])
 (.seq (.reg [sm 7 1,so 8 (.bin .sub (T 7) (C 257)),sm 5 8])
 (.seq (.seq (.reg [sm 9 5,so 10 (.bin .lss (T 9) (C 8))])
 (.cond (T 10)
 (.seq (.reg [sm 11 5,so 12 (.bin .add (C 3) (T 11)),sm 4 12])
 .ret)
 .skip))
 (.seq (.seq (.reg [sm 13 5,so 14 (.bin .eql (T 13) (C 28))])
 (.cond (T 14)
 (.seq (.reg [so 4 (.mv (C 258))])
 .ret)
 .skip))
 (.seq (.reg [sm 15 5,so 16 (.bin .quo (T 15) (C 4)),so 17 (.bin .sub (T 16) (C 1)),sm 6 17])
 (.seq (.reg [sm 18 5,so 19 (.bin .rem (T 18) (C 4)),so 20 (.bin .add (C 4) (T 19)),sm 21 6,so 22 (.call true Zdp [(T 21)]),so 23 (.bin .mul (T 20) (T 22)),so 24 (.bin .add (C 3) (T 23)),sm 25 0,sm 26 6,so 27 (.call true Zai [(T 25),(T 26)]),so 28 (.bin .add (T 24) (T 27)),sm 4 28])
 .ret))))))
theorem Zgr:Zam Tryz.prog 29 (Tryz.f51.body.getD .skip)=ZcV:=by kernel_rfl
theorem Zgs:Zaf Tryz.prog Tryz.f51=some [.tmp 4]:=by kernel_rfl
def Zcx:SCode :=
 (.seq (.reg [so 4 (.mv (C 0))])
 (.seq (.seq (.reg [sm 6 1,so 7 (.bin .lss (T 6) (C 4))])
 (.cond (T 7)
 (.seq (.reg [sm 8 1,so 9 (.bin .add (C 1) (T 8)),sm 4 9])
 .ret)
 .skip))
 (.seq (.reg [sm 10 1,so 11 (.bin .quo (T 10) (C 2)),so 12 (.bin .sub (T 11) (C 1)),sm 5 12])
 (.seq (.reg [sm 13 1,so 14 (.bin .rem (T 13) (C 2)),so 15 (.bin .add (C 2) (T 14)),sm 16 5,so 17 (.call true Zdp [(T 16)]),so 18 (.bin .mul (T 15) (T 17)),so 19 (.bin .add (C 1) (T 18)),sm 20 0,sm 21 5,so 22 (.call true Zai [(T 20),(T 21)]),so 23 (.bin .add (T 19) (T 22)),sm 4 23])
 .ret))))
theorem Zfl:Zam Tryz.prog 24 (Tryz.f52.body.getD .skip)=Zcx:=by kernel_rfl
theorem Zfm:Zaf Tryz.prog Tryz.f52=some [.tmp 4]:=by kernel_rfl
def ZfB:SCode :=
 (.seq (.reg [so 2 (.mv (.const (.slice none 0 0))),so 3 (.mv (C 0))])
 (.seq (.seq (.reg [sm 9 0,so 10 (.call true Zdm [(T 9)]),sm 4 10])
 (.seq (.reg [sm 11 4,so 12 (.bin .neq (T 11) (C 0))])
 (.cond (T 12)
 (.seq (.reg [sm 13 4,so 2 (.mv (.const (.slice none 0 0))),sm 3 13])
 .ret)
 .skip)))
 (.seq (.reg [so 5 (.mv (.const (.slice none 0 0)))])
 (.seq (.reg [sm 14 5,sm 15 0,so 16 (.app none 8 (T 14) (T 15)),sm 5 16])
 (.seq (.reg [so 6 (.mv (C 0))])
 (.seq (.seq (.reg [so 7 (.mv (C 0))])
 (.block 0
 (.loop
 (.seq (.seq (.reg [sm 17 7,so 18 (.bin .leq (T 17) (C 15))])
 (.cond (T 18)
 .skip
 (.exit 0)))
 (.seq (.block 1
 (.seq (.seq (.reg [so 8 (.mv (C 0))])
 (.block 2
 (.loop
 (.seq (.seq (.reg [sm 21 8,sm 22 0,so 23 (.len false (T 22)),so 24 (.bin .lss (T 21) (T 23))])
 (.cond (T 24)
 .skip
 (.exit 2)))
 (.seq (.block 3
 (.seq (.seq (.reg [sm 27 0,sm 28 8,so 29 (.iaddr none (T 27) (T 28)),so 30 (.load none (T 29)),sm 31 7,so 32 (.bin .neq (T 30) (T 31))])
 (.cond (T 32)
 (.exit 3)
 .skip))
 (.seq (.reg [sm 33 5,sm 34 8,sm 35 6,so 36 (.iaddr none (T 33) (T 34)),sn (.store none (T 36) (T 35))])
 (.seq (.reg [sm 37 7,so 38 (.bin .gtr (T 37) (C 0))])
 (.cond (T 38)
 (.reg [sm 39 6,so 40 (.bin .add (T 39) (C 1)),sm 6 40])
 (.reg [sm 41 5,sm 42 8,so 43 (.iaddr none (T 41) (T 42)),sn (.store none (T 43) (C 0))]))))))
 (.reg [sm 25 8,so 26 (.bin .add (T 25) (C 1)),sm 8 26]))))))
 (.reg [sm 44 6,so 45 (.bin .mul (C 2) (T 44)),sm 6 45])))
 (.reg [sm 19 7,so 20 (.bin .add (T 19) (C 1)),sm 7 20]))))))
 (.seq (.reg [sm 46 5,sm 2 46,so 3 (.mv (C 0))])
 .ret)))))))
theorem Zkc:Zam Tryz.prog 47 (Tryz.f53.body.getD .skip)=ZfB:=by kernel_rfl
theorem Zkd:Zaf Tryz.prog Tryz.f53=some [.tmp 2,.tmp 3]:=by kernel_rfl
def Zgt:SCode :=
 (.seq (.reg [so 2 (.mv (.const (.bool false)))])
 (.seq (.reg [sm 3 0,so 4 (.call true Zdm [(T 3)]),so 5 (.bin .eql (T 4) (C 0)),sm 6 5,sg 7 (.mv (T 0)) 6 true,sg 8 (.call true Zdo [(T 7)]) 6 true,sg 9 (.bin .eql (T 8) (C 32768)) 6 true,so 10 (.pick (T 6) (T 9) (.const (.bool false))),sm 2 10])
 .ret))
theorem ZkR:Zam Tryz.prog 11 (Tryz.f54.body.getD .skip)=Zgt:=by kernel_rfl
theorem ZkS:Zaf Tryz.prog Tryz.f54=some [.tmp 2]:=by kernel_rfl
def Zg3:SCode :=
 (.seq (.reg [so 2 (.mv (C 0))])
 (.seq (.reg [sm 3 0,so 4 (.nilc (T 3)),so 5 (.faddr 0 (T 4)),so 6 (.load none (T 5)),so 7 (.len false (T 6)),so 8 (.bin .mul (T 7) (C 8)),sm 9 0,so 10 (.nilc (T 9)),so 11 (.faddr 1 (T 10)),so 12 (.load none (T 11)),so 13 (.bin .sub (T 8) (T 12)),sm 2 13])
 .ret))
theorem ZlJ:Zam Tryz.prog 14 (Tryz.f84.body.getD .skip)=Zg3:=by kernel_rfl
theorem ZlK:Zaf Tryz.prog Tryz.f84=some [.tmp 2]:=by kernel_rfl
def ZhL:SCode :=
 (.seq (.reg [so 2 (.mv (C 0))])
 (.seq (.reg [sm 4 0,so 5 (.nilc (T 4)),so 6 (.faddr 0 (T 5)),so 7 (.load none (T 6)),sm 8 0,so 9 (.nilc (T 8)),so 10 (.faddr 1 (T 9)),so 11 (.load none (T 10)),so 12 (.bin .quo (T 11) (C 8)),so 13 (.iaddr none (T 7) (T 12)),so 14 (.load none (T 13)),so 15 (.ci .i64 (T 14)),sm 16 0,so 17 (.nilc (T 16)),so 18 (.faddr 1 (T 17)),so 19 (.load none (T 18)),so 20 (.bin .rem (T 19) (C 8)),so 21 (.bin .shr (T 15) (T 20)),so 22 (.bin .and (T 21) (C 1)),sm 3 22])
 (.seq (.reg [sm 23 0,so 24 (.nilc (T 23)),so 25 (.faddr 1 (T 24)),so 26 (.load none (T 25)),so 27 (.bin .add (T 26) (C 1)),so 28 (.nilc (T 23)),so 29 (.faddr 1 (T 28)),sn (.store none (T 29) (T 27))])
 (.seq (.reg [sm 30 3,sm 2 30])
 .ret))))
theorem ZmH:Zam Tryz.prog 31 (Tryz.f85.body.getD .skip)=ZhL:=by kernel_rfl
theorem ZmI:Zaf Tryz.prog Tryz.f85=some [.tmp 2]:=by kernel_rfl
def Zgu:SCode :=
 (.reg [sm 2 0,sm 3 0,so 4 (.nilc (T 3)),so 5 (.faddr 1 (T 4)),so 6 (.load none (T 5)),so 7 (.bin .add (T 6) (C 8)),so 8 (.bin .sub (T 7) (C 1)),so 9 (.bin .quo (T 8) (C 8)),so 10 (.bin .mul (T 9) (C 8)),so 11 (.nilc (T 2)),so 12 (.faddr 1 (T 11)),sn (.store none (T 12) (T 10))])
theorem ZkT:Zam Tryz.prog 13 (Tryz.f86.body.getD .skip)=Zgu:=by kernel_rfl
theorem ZkU:Zaf Tryz.prog Tryz.f86=some []:=by kernel_rfl
def ZdO:SCode :=
 (.seq (.reg [so 4 (.mv (.const (.slice none 0 0))),so 5 (.mv (.const (.bool false)))])
 (.seq (.reg [sm 7 0,so 8 (.call true ZdL [(T 7)])])
 (.seq (.seq (.reg [sm 9 1,so 10 (.bin .lss (T 9) (C 0)),sm 11 10,sg 12 (.mv (T 1)) 11 false,sg 13 (.mv (T 0)) 11 false,sg 14 (.call true ZcF [(T 13)]) 11 false,sg 15 (.bin .quo (T 14) (C 8)) 11 false,sg 16 (.bin .gtr (T 12) (T 15)) 11 false,so 17 (.pick (T 11) (.const (.bool true)) (T 16))])
 (.cond (T 17)
 (.seq (.reg [so 4 (.mv (.const (.slice none 0 0))),so 5 (.mv (.const (.bool false)))])
 .ret)
 .skip))
 (.seq (.reg [sm 18 0,so 19 (.nilc (T 18)),so 20 (.faddr 1 (T 19)),so 21 (.load none (T 20)),so 22 (.bin .quo (T 21) (C 8)),sm 6 22])
 (.seq (.reg [sm 23 0,so 24 (.nilc (T 23)),so 25 (.faddr 1 (T 24)),so 26 (.load none (T 25)),sm 27 1,so 28 (.bin .mul (T 27) (C 8)),so 29 (.bin .add (T 26) (T 28)),so 30 (.nilc (T 23)),so 31 (.faddr 1 (T 30)),sn (.store none (T 31) (T 29))])
 (.seq (.reg [sm 32 0,so 33 (.nilc (T 32)),so 34 (.faddr 0 (T 33)),so 35 (.load none (T 34)),sm 36 6,sm 37 6,sm 38 1,so 39 (.bin .add (T 37) (T 38)),so 40 (.sl none (T 35) (some (T 36)) (some (T 39))),so 41 (.call true Zd6 [(T 40)]),sm 4 41,so 5 (.mv (.const (.bool true)))])
 .ret))))))
theorem Zgv:Zam Tryz.prog 42 (Tryz.f87.body.getD .skip)=ZdO:=by kernel_rfl
theorem Zgw:Zaf Tryz.prog Tryz.f87=some [.tmp 4,.tmp 5]:=by kernel_rfl
def Zeb:SCode :=
 (.seq (.reg [so 2 (.mv (C 0))])
 (.seq (.reg [sm 3 0,so 4 (.nilc (T 3)),so 5 (.faddr 2 (T 4)),so 6 (.load none (T 5)),sm 7 0,so 8 (.nilc (T 7)),so 9 (.faddr 1 (T 8)),so 10 (.load none (T 9)),so 11 (.len false (T 10)),so 12 (.bin .sub (T 6) (T 11)),sm 2 12])
 .ret))
theorem Zik:Zam Tryz.prog 13 (Tryz.f88.body.getD .skip)=Zeb:=by kernel_rfl
theorem Zil:Zaf Tryz.prog Tryz.f88=some [.tmp 2]:=by kernel_rfl
def ZkC:SCode :=
 (.seq (.reg [so 2 (.mv (.const (.pointer none))),so 3 (.mv (C 0))])
 (.seq (.seq (.reg [sm 8 0,so 9 (.call true ZgX [(T 8)]),sm 4 9])
 (.seq (.reg [sm 10 4,so 11 (.bin .neq (T 10) (C 0))])
 (.cond (T 11)
 (.seq (.reg [sm 12 4,so 2 (.mv (.const (.pointer none))),sm 3 12])
 .ret)
 .skip)))
 (.seq (.reg [sm 13 0,so 14 (.call true Zfk [(T 13)]),sm 15 0,so 16 (.call true Zg0 [(T 15)]),so 17 (.build [(.int .i64 (0)),(.int .i64 (0)),(.int .i64 (0)),(.int .i64 (0)),(.int .i64 (0)),(.int .i64 (0)),(.int .i64 (0)),(.int .i64 (0)),(.int .i64 (0)),(.int .i64 (0)),(.int .i64 (0)),(.int .i64 (0)),(.int .i64 (0)),(.int .i64 (0)),(.int .i64 (0)),(.int .i64 (0)),(.slice none 0 0),(.slice none 0 0),(.slice none 0 0),(.slice none 0 0),(.slice none 0 0),(.slice none 0 0),(.slice none 0 0),(.slice none 0 0),(.slice none 0 0),(.slice none 0 0),(.slice none 0 0),(.slice none 0 0),(.slice none 0 0),(.slice none 0 0),(.slice none 0 0),(.slice none 0 0),(.int .i64 (0))] [(0,16,(T 14)),(32,1,(T 16))]),so 18 (.box (T 17)),sm 5 18])
 (.seq (.seq (.reg [sm 19 0,so 20 (.len false (T 19)),so 21 (.mv (C 0))])
 (.block 0
 (.loop
 (.seq (.reg [so 22 (.bin .lss (T 21) (T 20))])
 (.seq (.cond (T 22)
 .skip
 (.exit 0))
 (.seq (.block 1
 (.seq (.reg [sm 23 21,so 24 (.iaddr none (T 19) (T 21)),so 25 (.load none (T 24)),sm 6 23,sm 7 25])
 (.seq (.reg [sm 26 7,so 27 (.bin .gtr (T 26) (C 0))])
 (.cond (T 27)
 (.reg [sm 28 5,sm 29 7,sm 30 5,sm 31 7,so 32 (.nilc (T 30)),so 33 (.faddr 16 (T 32)),so 34 (.iaddrA 16 none (T 33) (T 31)),so 35 (.load none (T 34)),sm 36 6,so 37 (.bslice none [(T 36)]),so 38 (.app none 8 (T 35) (T 37)),so 39 (.nilc (T 28)),so 40 (.faddr 16 (T 39)),so 41 (.iaddrA 16 none (T 40) (T 29)),sn (.store none (T 41) (T 38))])
 .skip))))
 (.reg [so 42 (.bin .add (T 21) (C 1)),sm 21 42])))))))
 (.seq (.reg [sm 43 5,sm 2 43,so 3 (.mv (C 0))])
 .ret)))))
theorem ZpC:Zam Tryz.prog 44 (Tryz.f89.body.getD .skip)=ZkC:=by kernel_rfl
theorem ZpD:Zaf Tryz.prog Tryz.f89=some [.tmp 2,.tmp 3]:=by kernel_rfl
def ZcW:SCode :=
 (.seq (.reg [so 2 (.mv (.const (.slice none 0 0)))])
 (.seq (.reg [so 3 (.mv (C 0))])
 (.seq (.seq (.reg [sm 9 0,so 10 (.len false (T 9)),so 11 (.mv (C 0))])
 (.block 0
 (.loop
 (.seq (.reg [so 12 (.bin .lss (T 11) (T 10))])
 (.seq (.cond (T 12)
 .skip
 (.exit 0))
 (.seq (.block 1
 (.seq (.reg [so 13 (.iaddr none (T 9) (T 11)),so 14 (.load none (T 13)),sm 5 14])
 (.seq (.reg [sm 15 3,sm 16 5,so 17 (.len false (T 16)),so 18 (.bin .add (T 15) (T 17)),sm 3 18])
 (.seq (.reg [sm 19 3,so 20 (.bin .lss (T 19) (C 0))])
 (.cond (T 20)
 (.reg [so 21 (.no),sn (.no)])
 .skip)))))
 (.reg [so 22 (.bin .add (T 11) (C 1)),sm 11 22])))))))
 (.seq (.reg [sm 23 3,so 24 (.call true Zgi [(.const (.slice none 0 0)),(T 23)]),sm 6 24])
 (.seq (.seq (.reg [sm 25 0,so 26 (.len false (T 25)),so 27 (.mv (C 0))])
 (.block 2
 (.loop
 (.seq (.reg [so 28 (.bin .lss (T 27) (T 26))])
 (.seq (.cond (T 28)
 .skip
 (.exit 2))
 (.seq (.block 3
 (.seq (.reg [so 29 (.iaddr none (T 25) (T 27)),so 30 (.load none (T 29)),sm 8 30])
 (.reg [sm 31 6,sm 32 8,so 33 (.app none 8 (T 31) (T 32)),sm 6 33])))
 (.reg [so 34 (.bin .add (T 27) (C 1)),sm 27 34])))))))
 (.seq (.reg [sm 35 6,sm 2 35])
 .ret))))))
theorem Ze7:Zam Tryz.prog 36 (Tryz.f75.body.getD .skip)=ZcW:=by kernel_rfl
theorem Ze8:Zaf Tryz.prog Tryz.f75=some [.tmp 2]:=by kernel_rfl
def Ze9:SCode :=
 (.seq (.reg [so 4 (.mv (.const (.slice none 0 0)))])
 (.seq (.seq (.reg [sm 9 1,so 10 (.bin .lss (T 9) (C 0))])
 (.cond (T 10)
 (.reg [so 11 (.no),sn (.no)])
 .skip))
 (.seq (.reg [sm 13 0,so 14 (.len false (T 13)),so 15 (.ci .u64 (T 14)),sm 16 1,so 17 (.ci .u64 (T 16)),so 18 (.call true Zqk [(T 15),(T 17)]),sm 12 18,so 19 (.ext (T 12) 0),so 20 (.ext (T 12) 1),sm 5 19,sm 6 20])
 (.seq (.seq (.reg [sm 21 5,so 22 (.bin .gtr (T 21) (.const (.int .u64 (0)))),sm 23 22,sg 24 (.mv (T 6)) 23 false,sg 25 (.bin .gtr (T 24) (.const (.int .u64 (9223372036854775807)))) 23 false,so 26 (.pick (T 23) (.const (.bool true)) (T 25))])
 (.cond (T 26)
 (.reg [so 27 (.no),sn (.no)])
 .skip))
 (.seq (.reg [sm 28 6,so 29 (.ci .i64 (T 28)),so 30 (.mks none 8 [(.int .i64 (0))] (T 29) (T 29)),sm 7 30])
 (.seq (.reg [sm 31 7,sm 32 0,so 33 (.copy (T 31) (T 32)),sm 8 33])
 (.seq (.block 0
 (.loop
 (.seq (.seq (.reg [sm 34 8,sm 35 7,so 36 (.len false (T 35)),so 37 (.bin .lss (T 34) (T 36))])
 (.cond (T 37)
 .skip
 (.exit 0)))
 (.block 1
 (.reg [sm 38 8,sm 39 7,sm 40 8,so 41 (.sl none (T 39) (some (T 40)) none),sm 42 7,sm 43 8,so 44 (.sl none (T 42) none (some (T 43))),so 45 (.copy (T 41) (T 44)),so 46 (.bin .add (T 38) (T 45)),sm 8 46])))))
 (.seq (.reg [sm 47 7,sm 4 47])
 .ret))))))))
theorem Zjk:Zam Tryz.prog 48 (Tryz.f76.body.getD .skip)=Ze9:=by kernel_rfl
theorem Zjl:Zaf Tryz.prog Tryz.f76=some [.tmp 4]:=by kernel_rfl
def ZiN:SCode :=
 (.seq (.reg [so 4 (.mv (C 0)),so 5 (.mv (C 0))])
 (.seq (.reg [so 6 (.mv (C 0))])
 (.seq (.seq (.reg [so 10 (.mv (C 0))])
 (.block 0
 (.loop
 (.seq (.reg [so 11 (.bin .lss (T 10) (C 15))])
 (.seq (.cond (T 11)
 .skip
 (.exit 0))
 (.seq (.block 1
 (.seq (.reg [sm 12 10,sm 7 12])
 (.seq (.seq (.reg [sm 13 1,so 14 (.call true ZcF [(T 13)]),so 15 (.bin .eql (T 14) (C 0))])
 (.cond (T 15)
 (.seq (.reg [so 4 (.mv (C 0)),so 5 (.mv (C 2))])
 .ret)
 .skip))
 (.seq (.reg [sm 16 6,so 17 (.bin .shl (T 16) (.const (.int .u64 (1)))),sm 18 1,so 19 (.call true ZeR [(T 18)]),so 20 (.bin .or (T 17) (T 19)),sm 6 20])
 (.seq (.reg [sm 21 7,so 22 (.bin .add (T 21) (C 1)),sm 8 22])
 (.seq (.seq (.reg [sm 23 0,sm 24 6,sm 25 8,so 26 (.call true ZgY [(T 23),(T 24),(T 25)]),so 27 (.un .not (T 26))])
 (.cond (T 27)
 (.exit 0)
 .skip))
 (.seq (.reg [sm 28 6,sm 29 0,sm 30 8,so 31 (.nilc (T 29)),so 32 (.faddr 0 (T 31)),so 33 (.iaddrA 16 none (T 32) (T 30)),so 34 (.load none (T 33)),so 35 (.bin .sub (T 28) (T 34)),sm 9 35])
 (.seq (.reg [sm 36 9,sm 37 0,sm 38 8,so 39 (.nilc (T 37)),so 40 (.faddr 16 (T 39)),so 41 (.iaddrA 16 none (T 40) (T 38)),so 42 (.load none (T 41)),so 43 (.len false (T 42)),so 44 (.bin .lss (T 36) (T 43))])
 (.cond (T 44)
 (.seq (.reg [sm 45 0,sm 46 8,so 47 (.nilc (T 45)),so 48 (.faddr 16 (T 47)),so 49 (.iaddrA 16 none (T 48) (T 46)),so 50 (.load none (T 49)),sm 51 9,so 52 (.iaddr none (T 50) (T 51)),so 53 (.load none (T 52)),sm 4 53,so 5 (.mv (C 0))])
 .ret)
 .skip)))))))))
 (.reg [so 54 (.bin .add (T 10) (C 1)),sm 10 54])))))))
 (.seq (.reg [so 4 (.mv (C 0)),so 5 (.mv (C 3))])
 .ret))))
theorem ZnI:Zam Tryz.prog 55 (Tryz.f90.body.getD .skip)=ZiN:=by kernel_rfl
theorem ZnJ:Zaf Tryz.prog Tryz.f90=some [.tmp 4,.tmp 5]:=by kernel_rfl
def Zb4:SCode :=
 (.seq (.reg [so 4 (.mv (C 0))])
 (.seq (.seq (.reg [sm 5 0,so 6 (.call true ZbM [(T 5)]),so 7 (.bin .lss (T 6) (C 1))])
 (.cond (T 7)
 (.seq (.reg [so 4 (.mv (C 4))])
 .ret)
 .skip))
 (.seq (.reg [sm 8 0,sm 9 0,so 10 (.nilc (T 9)),so 11 (.faddr 1 (T 10)),so 12 (.load none (T 11)),sm 13 1,so 14 (.bslice none [(T 13)]),so 15 (.app none 1 (T 12) (T 14)),so 16 (.nilc (T 8)),so 17 (.faddr 1 (T 16)),sn (.store none (T 17) (T 15))])
 (.seq (.reg [so 4 (.mv (C 0))])
 .ret))))
theorem Zde:Zam Tryz.prog 18 (Tryz.f91.body.getD .skip)=Zb4:=by kernel_rfl
theorem Zdf:Zaf Tryz.prog Tryz.f91=some [.tmp 4]:=by kernel_rfl
def ZaP:SCode :=
 (.seq (.reg [so 6 (.mv (C 0))])
 (.seq (.reg [sm 11 0,sm 12 1,so 13 (.call true Zdt [(T 11),(T 12)]),sm 10 13,so 14 (.ext (T 10) 0),so 15 (.ext (T 10) 1),sm 7 14,sm 8 15])
 (.seq (.seq (.reg [sm 16 8,so 17 (.bin .neq (T 16) (C 0))])
 (.cond (T 17)
 (.seq (.reg [sm 18 8,sm 6 18])
 .ret)
 .skip))
 (.seq (.reg [sm 20 2,sm 21 0,so 22 (.nilc (T 21)),so 23 (.faddr 0 (T 22)),so 24 (.load none (T 23)),so 25 (.call true ZdH [(T 20),(T 24)]),sm 19 25,so 26 (.ext (T 19) 0),so 27 (.ext (T 19) 1),sm 1 26,sm 8 27])
 (.seq (.seq (.reg [sm 28 8,so 29 (.bin .neq (T 28) (C 0))])
 (.cond (T 29)
 (.seq (.reg [sm 30 8,sm 6 30])
 .ret)
 .skip))
 (.seq (.reg [sm 32 0,sm 33 1,so 34 (.call true ZcR [(T 32),(T 33)]),sm 31 34,so 35 (.ext (T 31) 0),so 36 (.ext (T 31) 1),sm 9 35,sm 8 36])
 (.seq (.seq (.reg [sm 37 8,so 38 (.bin .neq (T 37) (C 0))])
 (.cond (T 38)
 (.seq (.reg [sm 39 8,sm 6 39])
 .ret)
 .skip))
 (.seq (.seq (.reg [sm 40 9,sm 41 0,so 42 (.nilc (T 41)),so 43 (.faddr 1 (T 42)),so 44 (.load none (T 43)),so 45 (.len false (T 44)),so 46 (.bin .gtr (T 40) (T 45))])
 (.cond (T 46)
 (.seq (.reg [so 6 (.mv (C 3))])
 .ret)
 .skip))
 (.seq (.seq (.reg [sm 47 7,sm 48 0,so 49 (.call true ZbM [(T 48)]),so 50 (.bin .gtr (T 47) (T 49))])
 (.cond (T 50)
 (.seq (.reg [so 6 (.mv (C 4))])
 .ret)
 .skip))
 (.seq (.seq (.reg [sm 51 7,so 52 (.mv (C 0))])
 (.block 0
 (.loop
 (.seq (.reg [so 53 (.bin .lss (T 52) (T 51))])
 (.seq (.cond (T 53)
 .skip
 (.exit 0))
 (.seq (.block 1
 (.reg [sm 54 0,sm 55 0,so 56 (.nilc (T 55)),so 57 (.faddr 1 (T 56)),so 58 (.load none (T 57)),sm 59 0,so 60 (.nilc (T 59)),so 61 (.faddr 1 (T 60)),so 62 (.load none (T 61)),sm 63 0,so 64 (.nilc (T 63)),so 65 (.faddr 1 (T 64)),so 66 (.load none (T 65)),so 67 (.len false (T 66)),sm 68 9,so 69 (.bin .sub (T 67) (T 68)),so 70 (.iaddr none (T 62) (T 69)),so 71 (.load none (T 70)),so 72 (.bslice none [(T 71)]),so 73 (.app none 1 (T 58) (T 72)),so 74 (.nilc (T 54)),so 75 (.faddr 1 (T 74)),sn (.store none (T 75) (T 73))]))
 (.reg [so 76 (.bin .add (T 52) (C 1)),sm 52 76])))))))
 (.seq (.reg [so 6 (.mv (C 0))])
 .ret)))))))))))
theorem Za4:Zam Tryz.prog 77 (Tryz.f92.body.getD .skip)=ZaP:=by kernel_rfl
theorem Za5:Zaf Tryz.prog Tryz.f92=some [.tmp 6]:=by kernel_rfl
def Zdy:SCode :=
 (.seq (.reg [so 4 (.mv (.const (.pointer none))),so 5 (.mv (C 0))])
 (.seq (.reg [so 10 (.mks none 8 [(.int .i64 (0))] (C 19) (C 19)),sm 6 10])
 (.seq (.seq (.reg [sm 11 1,so 12 (.mv (C 0))])
 (.block 0
 (.loop
 (.seq (.reg [so 13 (.bin .lss (T 12) (T 11))])
 (.seq (.cond (T 13)
 .skip
 (.exit 0))
 (.seq (.block 1
 (.seq (.reg [sm 14 12,sm 7 14])
 (.seq (.reg [sm 16 0,so 17 (.nilc (T 16)),so 18 (.faddr 0 (T 17)),so 19 (.load none (T 18)),so 20 (.call true Za1 [(T 19),(C 3)]),sm 15 20,so 21 (.ext (T 15) 0),so 22 (.ext (T 15) 1),sm 8 21,sm 9 22])
 (.seq (.seq (.reg [sm 23 9,so 24 (.un .not (T 23))])
 (.cond (T 24)
 (.seq (.reg [so 4 (.mv (.const (.pointer none))),so 5 (.mv (C 2))])
 .ret)
 .skip))
 (.reg [sm 25 6,sm 26 7,so 27 (.iaddrA 19 none (.global 1) (T 26)),so 28 (.load none (T 27)),sm 29 8,so 30 (.iaddr none (T 25) (T 28)),sn (.store none (T 30) (T 29))])))))
 (.reg [so 31 (.bin .add (T 12) (C 1)),sm 12 31])))))))
 (.seq (.seq (.reg [sm 32 6,so 33 (.call true Zgf [(T 32)]),so 34 (.un .not (T 33))])
 (.cond (T 34)
 (.seq (.reg [so 4 (.mv (.const (.pointer none))),so 5 (.mv (C 3))])
 .ret)
 .skip))
 (.seq (.reg [sm 35 6,so 36 (.call true Zcc [(T 35)]),so 37 (.ext (T 36) 0),so 38 (.ext (T 36) 1),sm 4 37,sm 5 38])
 .ret)))))
theorem Zhl:Zam Tryz.prog 39 (Tryz.f93.body.getD .skip)=Zdy:=by kernel_rfl
theorem Zhm:Zaf Tryz.prog Tryz.f93=some [.tmp 4,.tmp 5]:=by kernel_rfl
def Zdg:SCode :=
 (.seq (.reg [so 6 (.mv (.const (.slice none 0 0))),so 7 (.mv (C 0))])
 (.seq (.reg [so 8 (.mv (.const (.slice none 0 0)))])
 (.seq (.block 0
 (.loop
 (.seq (.seq (.reg [sm 14 8,so 15 (.len false (T 14)),sm 16 2,so 17 (.bin .lss (T 15) (T 16))])
 (.cond (T 17)
 .skip
 (.exit 0)))
 (.block 1
 (.seq (.reg [sm 19 1,sm 20 0,so 21 (.nilc (T 20)),so 22 (.faddr 0 (T 21)),so 23 (.load none (T 22)),so 24 (.call true ZdH [(T 19),(T 23)]),sm 18 24,so 25 (.ext (T 18) 0),so 26 (.ext (T 18) 1),sm 9 25,sm 10 26])
 (.seq (.seq (.reg [sm 27 10,so 28 (.bin .neq (T 27) (C 0))])
 (.cond (T 28)
 (.seq (.reg [sm 29 10,so 6 (.mv (.const (.slice none 0 0))),sm 7 29])
 .ret)
 .skip))
 (.seq (.reg [sm 30 9,sm 11 30,so 12 (.mv (C 1)),so 13 (.mv (C 0))])
 (.seq (.seq (.reg [sm 31 9])
 (.block 2
 (.seq (.reg [so 33 (.bin .eql (T 31) (C 16)),sm 32 33])
 (.cond (T 32)
 (.seq (.seq (.reg [sm 34 8,so 35 (.len false (T 34)),so 36 (.bin .eql (T 35) (C 0))])
 (.cond (T 36)
 (.seq (.reg [so 6 (.mv (.const (.slice none 0 0))),so 7 (.mv (C 3))])
 .ret)
 .skip))
 (.reg [sm 37 8,sm 38 8,so 39 (.len false (T 38)),so 40 (.bin .sub (T 39) (C 1)),so 41 (.iaddr none (T 37) (T 40)),so 42 (.load none (T 41)),sm 11 42,so 12 (.mv (C 3)),so 13 (.mv (C 2))]))
 (.seq (.reg [so 44 (.bin .eql (T 31) (C 17)),sm 43 44])
 (.cond (T 43)
 (.reg [so 11 (.mv (C 0)),so 12 (.mv (C 3)),so 13 (.mv (C 3))])
 (.seq (.reg [so 46 (.bin .eql (T 31) (C 18)),sm 45 46])
 (.cond (T 45)
 (.reg [so 11 (.mv (C 0)),so 12 (.mv (C 11)),so 13 (.mv (C 7))])
 .skip))))))))
 (.seq (.seq (.reg [sm 48 0,sm 49 12,sm 50 13,so 51 (.call true Za0 [(T 48),(T 49),(T 50)]),sm 47 51,so 52 (.ext (T 47) 0),so 53 (.ext (T 47) 1),sm 12 52,sm 10 53])
 (.seq (.reg [sm 54 10,so 55 (.bin .neq (T 54) (C 0))])
 (.cond (T 55)
 (.seq (.reg [sm 56 10,so 6 (.mv (.const (.slice none 0 0))),sm 7 56])
 .ret)
 .skip)))
 (.seq (.seq (.reg [sm 57 12,sm 58 2,sm 59 8,so 60 (.len false (T 59)),so 61 (.bin .sub (T 58) (T 60)),so 62 (.bin .gtr (T 57) (T 61))])
 (.cond (T 62)
 (.seq (.reg [so 6 (.mv (.const (.slice none 0 0))),so 7 (.mv (C 3))])
 .ret)
 .skip))
 (.reg [sm 63 8,sm 64 11,so 65 (.bsl none [(T 64)]),sm 66 12,so 67 (.call true Zay [(T 65),(T 66)]),so 68 (.app none 8 (T 63) (T 67)),sm 8 68])))))))))))
 (.seq (.reg [sm 69 8,sm 6 69,so 7 (.mv (C 0))])
 .ret))))
theorem ZgO:Zam Tryz.prog 70 (Tryz.f94.body.getD .skip)=Zdg:=by kernel_rfl
theorem ZgP:Zaf Tryz.prog Tryz.f94=some [.tmp 6,.tmp 7]:=by kernel_rfl
def ZhM:SCode :=
 (.seq (.reg [so 4 (.mv (.const (.pointer none))),so 5 (.mv (C 0))])
 (.seq (.seq (.reg [sm 7 0,so 8 (.iaddr none (T 7) (C 256)),so 9 (.load none (T 8)),so 10 (.bin .eql (T 9) (C 0)),sm 11 10,sg 12 (.mv (T 0)) 11 false,sg 13 (.call true Zgf [(T 12)]) 11 false,sg 14 (.un .not (T 13)) 11 false,so 15 (.pick (T 11) (.const (.bool true)) (T 14)),sm 16 15,sg 17 (.mv (T 1)) 16 false,sg 18 (.call true Zgh [(T 17)]) 16 false,sg 19 (.un .not (T 18)) 16 false,so 20 (.pick (T 16) (.const (.bool true)) (T 19))])
 (.cond (T 20)
 (.seq (.reg [so 4 (.mv (.const (.pointer none))),so 5 (.mv (C 3))])
 .ret)
 .skip))
 (.seq (.reg [so 21 (.build [(.pointer none),(.pointer none)] []),so 22 (.box (T 21)),sm 6 22])
 (.seq (.reg [sm 24 6,sm 25 0,so 26 (.call true Zcc [(T 25)]),sm 23 26,so 27 (.ext (T 23) 0),so 28 (.ext (T 23) 1),so 29 (.nilc (T 24)),so 30 (.faddr 0 (T 29)),sn (.store none (T 30) (T 27))])
 (.seq (.reg [sm 32 6,sm 33 1,so 34 (.call true Zcc [(T 33)]),sm 31 34,so 35 (.ext (T 31) 0),so 36 (.ext (T 31) 1),so 37 (.nilc (T 32)),so 38 (.faddr 1 (T 37)),sn (.store none (T 38) (T 35))])
 (.seq (.reg [sm 39 6,sm 4 39,so 5 (.mv (C 0))])
 .ret))))))
theorem ZmJ:Zam Tryz.prog 40 (Tryz.f95.body.getD .skip)=ZhM:=by kernel_rfl
theorem ZmK:Zaf Tryz.prog Tryz.f95=some [.tmp 4,.tmp 5]:=by kernel_rfl
def Zgx:SCode :=
 (.seq (.reg [so 6 (.alloc [(.int .i64 (0)),(.slice none 0 0),(.int .i64 (0))])])
 (.seq (.seq (.reg [so 7 (.mv (C 1))])
 (.block 0
 (.loop
 (.seq (.seq (.reg [sm 11 7,so 12 (.bin .leq (T 11) (C 15))])
 (.cond (T 12)
 .skip
 (.exit 0)))
 (.seq (.block 1
 (.seq (.seq (.reg [sm 15 7,sm 16 2,so 17 (.len false (T 16)),so 18 (.bin .gtr (T 15) (T 17))])
 (.cond (T 18)
 (.seq (.reg [so 19 (.build [(.int .i64 (0)),(.slice none 0 0),(.int .i64 (0))] [(2,1,(C 2))]),sn (.store (some 3) (T 6) (T 19))])
 .ret)
 .skip))
 (.seq (.reg [so 8 (.mv (.const (.bool false)))])
 (.seq (.seq (.reg [so 9 (.mv (C 0))])
 (.block 2
 (.loop
 (.seq (.seq (.reg [sm 20 9,sm 21 0,so 22 (.len false (T 21)),so 23 (.bin .lss (T 20) (T 22))])
 (.cond (T 23)
 .skip
 (.exit 2)))
 (.seq (.block 3
 (.seq (.seq (.reg [sm 26 0,sm 27 9,so 28 (.iaddr none (T 26) (T 27)),so 29 (.load none (T 28)),so 30 (.bin .eql (T 29) (C 0))])
 (.cond (T 30)
 (.exit 3)
 .skip))
 (.seq (.reg [sm 31 1,sm 32 9,so 33 (.iaddr none (T 31) (T 32)),so 34 (.load none (T 33)),sm 35 0,sm 36 9,so 37 (.iaddr none (T 35) (T 36)),so 38 (.load none (T 37)),so 39 (.call true ZgW [(T 34),(T 38)]),sm 10 39])
 (.seq (.seq (.reg [sm 40 0,sm 41 9,so 42 (.iaddr none (T 40) (T 41)),so 43 (.load none (T 42)),sm 44 7,so 45 (.bin .eql (T 43) (T 44)),sm 46 45,sg 47 (.mv (T 10)) 46 true,sg 48 (.mv (T 2)) 46 true,sg 49 (.call true ZdK [(T 47),(T 48)]) 46 true,so 50 (.pick (T 46) (T 49) (.const (.bool false)))])
 (.cond (T 50)
 (.seq (.reg [sm 51 9,sm 52 2,sm 53 7,so 54 (.sl none (T 52) (some (T 53)) none),so 55 (.build [(.int .i64 (0)),(.slice none 0 0),(.int .i64 (0))] [(0,1,(T 51)),(1,1,(T 54))]),sn (.store (some 3) (T 6) (T 55))])
 .ret)
 .skip))
 (.reg [sm 56 8,sm 57 56,sg 58 (.mv (T 2)) 57 false,sg 59 (.mv (T 7)) 57 false,sg 60 (.sl none (T 58) none (some (T 59))) 57 false,sg 61 (.mv (T 10)) 57 false,sg 62 (.call true ZdK [(T 60),(T 61)]) 57 false,so 63 (.pick (T 57) (.const (.bool true)) (T 62)),sm 8 63])))))
 (.reg [sm 24 9,so 25 (.bin .add (T 24) (C 1)),sm 9 25]))))))
 (.seq (.reg [sm 64 8,so 65 (.un .not (T 64))])
 (.cond (T 65)
 (.seq (.reg [sm 66 2,sm 67 7,so 68 (.sl none (T 66) (some (T 67)) none),so 69 (.build [(.int .i64 (0)),(.slice none 0 0),(.int .i64 (0))] [(1,1,(T 68)),(2,1,(C 3))]),sn (.store (some 3) (T 6) (T 69))])
 .ret)
 .skip))))))
 (.reg [sm 13 7,so 14 (.bin .add (T 13) (C 1)),sm 7 14]))))))
 (.seq (.reg [sm 70 2,so 71 (.sl none (T 70) (some (C 15)) none),so 72 (.build [(.int .i64 (0)),(.slice none 0 0),(.int .i64 (0))] [(1,1,(T 71)),(2,1,(C 3))]),sn (.store (some 3) (T 6) (T 72))])
 .ret)))
theorem ZkV:Zam Tryz.prog 73 (Tryz.f96.body.getD .skip)=Zgx:=by kernel_rfl
theorem ZkW:Zaf Tryz.prog Tryz.f96=some [.cell 6 (some 3)]:=by kernel_rfl
def ZfC:SCode :=
 (.seq (.reg [so 2 (.mv (C 0))])
 (.seq (.reg [so 3 (.mv (C 1))])
 (.seq (.seq (.reg [so 4 (.mv (C 0))])
 (.block 0
 (.loop
 (.seq (.seq (.reg [sm 5 4,sm 6 0,so 7 (.bin .lss (T 5) (T 6))])
 (.cond (T 7)
 .skip
 (.exit 0)))
 (.seq (.block 1
 (.reg [sm 10 3,so 11 (.bin .mul (C 2) (T 10)),sm 3 11]))
 (.reg [sm 8 4,so 9 (.bin .add (T 8) (C 1)),sm 4 9]))))))
 (.seq (.reg [sm 12 3,sm 2 12])
 .ret))))
theorem Zke:Zam Tryz.prog 13 (Tryz.f97.body.getD .skip)=ZfC:=by kernel_rfl
theorem Zkf:Zaf Tryz.prog Tryz.f97=some [.tmp 2]:=by kernel_rfl
def ZfD:SCode :=
 (.seq (.reg [so 2 (.mv (C 0))])
 (.seq (.seq (.reg [sm 4 0,so 5 (.len false (T 4)),so 6 (.bin .gtr (T 5) (C 320))])
 (.cond (T 6)
 (.seq (.reg [so 2 (.mv (C 4))])
 .ret)
 .skip))
 (.seq (.seq (.reg [so 3 (.mv (C 0))])
 (.block 0
 (.loop
 (.seq (.seq (.reg [sm 7 3,sm 8 0,so 9 (.len false (T 8)),so 10 (.bin .lss (T 7) (T 9))])
 (.cond (T 10)
 .skip
 (.exit 0)))
 (.seq (.block 1
 (.seq (.reg [sm 13 0,sm 14 3,so 15 (.iaddr none (T 13) (T 14)),so 16 (.load none (T 15)),so 17 (.bin .lss (T 16) (C 0)),sm 18 17,sg 19 (.mv (T 0)) 18 false,sg 20 (.mv (T 3)) 18 false,sg 21 (.iaddr none (T 19) (T 20)) 18 false,sg 22 (.load none (T 21)) 18 false,sg 23 (.bin .gtr (T 22) (C 15)) 18 false,so 24 (.pick (T 18) (.const (.bool true)) (T 23))])
 (.cond (T 24)
 (.seq (.reg [so 2 (.mv (C 1))])
 .ret)
 .skip)))
 (.reg [sm 11 3,so 12 (.bin .add (T 11) (C 1)),sm 3 12]))))))
 (.seq (.seq (.reg [sm 25 0,so 26 (.call true Zdo [(T 25)]),so 27 (.bin .gtr (T 26) (C 32768))])
 (.cond (T 27)
 (.seq (.reg [so 2 (.mv (C 3))])
 .ret)
 .skip))
 (.seq (.reg [so 2 (.mv (C 0))])
 .ret)))))
theorem Zkg:Zam Tryz.prog 28 (Tryz.f98.body.getD .skip)=ZfD:=by kernel_rfl
theorem Zkh:Zaf Tryz.prog Tryz.f98=some [.tmp 2]:=by kernel_rfl
def ZfE:SCode :=
 (.seq (.reg [so 2 (.mv (C 0))])
 (.seq (.reg [so 3 (.mv (C 0))])
 (.seq (.seq (.reg [so 4 (.mv (C 0))])
 (.block 0
 (.loop
 (.seq (.seq (.reg [sm 7 4,sm 8 0,so 9 (.len false (T 8)),so 10 (.bin .lss (T 7) (T 9))])
 (.cond (T 10)
 .skip
 (.exit 0)))
 (.seq (.block 1
 (.seq (.reg [sm 13 0,sm 14 4,so 15 (.iaddr none (T 13) (T 14)),so 16 (.load none (T 15)),so 17 (.bin .gtr (T 16) (C 0))])
 (.cond (T 17)
 (.seq (.reg [so 5 (.mv (C 32768))])
 (.seq (.seq (.reg [so 6 (.mv (C 0))])
 (.block 2
 (.loop
 (.seq (.seq (.reg [sm 18 6,sm 19 0,sm 20 4,so 21 (.iaddr none (T 19) (T 20)),so 22 (.load none (T 21)),so 23 (.bin .lss (T 18) (T 22))])
 (.cond (T 23)
 .skip
 (.exit 2)))
 (.seq (.block 3
 (.reg [sm 26 5,so 27 (.bin .quo (T 26) (C 2)),sm 5 27]))
 (.reg [sm 24 6,so 25 (.bin .add (T 24) (C 1)),sm 6 25]))))))
 (.reg [sm 28 3,sm 29 5,so 30 (.bin .add (T 28) (T 29)),sm 3 30])))
 .skip)))
 (.reg [sm 11 4,so 12 (.bin .add (T 11) (C 1)),sm 4 12]))))))
 (.seq (.reg [sm 31 3,sm 2 31])
 .ret))))
theorem Zki:Zam Tryz.prog 32 (Tryz.f99.body.getD .skip)=ZfE:=by kernel_rfl
theorem Zkj:Zaf Tryz.prog Tryz.f99=some [.tmp 2]:=by kernel_rfl
def Zno:SCode :=
 (.seq (.reg [so 2 (.mv (C 0))])
 (.seq (.seq (.reg [sm 5 0,so 6 (.len false (T 5)),so 7 (.bin .gtr (T 6) (C 320))])
 (.cond (T 7)
 (.seq (.reg [so 2 (.mv (C 4))])
 .ret)
 .skip))
 (.seq (.seq (.reg [sm 8 0,so 9 (.len false (T 8)),so 10 (.mv (C 0))])
 (.block 0
 (.loop
 (.seq (.reg [so 11 (.bin .lss (T 10) (T 9))])
 (.seq (.cond (T 11)
 .skip
 (.exit 0))
 (.seq (.block 1
 (.seq (.reg [so 12 (.iaddr none (T 8) (T 10)),so 13 (.load none (T 12)),sm 4 13])
 (.seq (.reg [sm 14 4,so 15 (.bin .lss (T 14) (C 0)),sm 16 15,sg 17 (.mv (T 4)) 16 false,sg 18 (.bin .gtr (T 17) (C 15)) 16 false,so 19 (.pick (T 16) (.const (.bool true)) (T 18))])
 (.cond (T 19)
 (.seq (.reg [so 2 (.mv (C 1))])
 .ret)
 .skip))))
 (.reg [so 20 (.bin .add (T 10) (C 1)),sm 10 20])))))))
 (.seq (.seq (.reg [sm 21 0,so 22 (.call true Zg0 [(T 21)]),so 23 (.bin .gtr (T 22) (C 32768))])
 (.cond (T 23)
 (.seq (.reg [so 2 (.mv (C 3))])
 .ret)
 .skip))
 (.seq (.reg [so 2 (.mv (C 0))])
 .ret)))))
theorem Zss:Zam Tryz.prog 24 (Tryz.f124.body.getD .skip)=Zno:=by kernel_rfl
theorem Zst:Zaf Tryz.prog Tryz.f124=some [.tmp 2]:=by kernel_rfl
def ZiO:SCode :=
 (.seq (.reg [so 2 (.alloc (List.replicate 16 (.int .i64 (0))))])
 (.seq (.reg [so 3 (.alloc (List.replicate 16 (.int .i64 (0))))])
 (.seq (.seq (.reg [sm 8 0,so 9 (.len false (T 8)),so 10 (.mv (C 0))])
 (.block 0
 (.loop
 (.seq (.reg [so 11 (.bin .lss (T 10) (T 9))])
 (.seq (.cond (T 11)
 .skip
 (.exit 0))
 (.seq (.block 1
 (.seq (.reg [so 12 (.iaddr none (T 8) (T 10)),so 13 (.load none (T 12)),sm 5 13])
 (.reg [sm 14 5,so 15 (.iaddrA 16 none (T 3) (T 14)),so 16 (.load none (T 15)),so 17 (.bin .add (T 16) (C 1)),so 18 (.iaddrA 16 none (T 3) (T 14)),sn (.store none (T 18) (T 17))])))
 (.reg [so 19 (.bin .add (T 10) (C 1)),sm 10 19])))))))
 (.seq (.reg [so 20 (.iaddrA 16 none (T 3) (C 0)),sn (.store none (T 20) (C 0))])
 (.seq (.reg [so 6 (.alloc (List.replicate 16 (.int .i64 (0))))])
 (.seq (.seq (.reg [so 21 (.mv (C 0))])
 (.block 2
 (.loop
 (.seq (.reg [so 22 (.bin .lss (T 21) (C 15))])
 (.seq (.cond (T 22)
 .skip
 (.exit 2))
 (.seq (.block 3
 (.seq (.reg [sm 23 21,sm 7 23])
 (.reg [sm 24 7,so 25 (.bin .add (T 24) (C 1)),sm 26 7,so 27 (.iaddrA 16 none (T 6) (T 26)),so 28 (.load none (T 27)),sm 29 7,so 30 (.iaddrA 16 none (T 3) (T 29)),so 31 (.load none (T 30)),so 32 (.bin .add (T 28) (T 31)),so 33 (.bin .shl (T 32) (.const (.int .u64 (1)))),so 34 (.iaddrA 16 none (T 6) (T 25)),sn (.store none (T 34) (T 33))])))
 (.reg [so 35 (.bin .add (T 21) (C 1)),sm 21 35])))))))
 (.seq (.reg [so 36 (.load (some 16) (T 6)),sn (.store (some 16) (T 2) (T 36))])
 .ret)))))))
theorem ZnK:Zam Tryz.prog 37 (Tryz.f125.body.getD .skip)=ZiO:=by kernel_rfl
theorem ZnL:Zaf Tryz.prog Tryz.f125=some [.cell 2 (some 16)]:=by kernel_rfl
def Znp:SCode :=
 (.seq (.reg [so 2 (.mv (C 0))])
 (.seq (.reg [so 3 (.mv (C 0))])
 (.seq (.seq (.reg [sm 6 0,so 7 (.len false (T 6)),so 8 (.mv (C 0))])
 (.block 0
 (.loop
 (.seq (.reg [so 9 (.bin .lss (T 8) (T 7))])
 (.seq (.cond (T 9)
 .skip
 (.exit 0))
 (.seq (.block 1
 (.seq (.reg [so 10 (.iaddr none (T 6) (T 8)),so 11 (.load none (T 10)),sm 5 11])
 (.seq (.reg [sm 12 5,so 13 (.bin .gtr (T 12) (C 0))])
 (.cond (T 13)
 (.reg [sm 14 3,sm 15 5,so 16 (.bin .shr (C 32768) (T 15)),so 17 (.bin .add (T 14) (T 16)),sm 3 17])
 .skip))))
 (.reg [so 18 (.bin .add (T 8) (C 1)),sm 8 18])))))))
 (.seq (.reg [sm 19 3,sm 2 19])
 .ret))))
theorem Zsu:Zam Tryz.prog 20 (Tryz.f126.body.getD .skip)=Znp:=by kernel_rfl
theorem Zsv:Zaf Tryz.prog Tryz.f126=some [.tmp 2]:=by kernel_rfl
def Zgy:SCode :=
 (.seq (.reg [so 4 (.mv (.const (.slice none 0 0)))])
 (.seq (.seq (.reg [sm 5 1,so 6 (.bin .lss (T 5) (C 0))])
 (.cond (T 6)
 (.reg [so 7 (.no),sn (.no)])
 .skip))
 (.seq (.seq (.reg [sm 8 1,sm 9 0,so 10 (.capn (T 9)),sm 11 0,so 12 (.len false (T 11)),so 13 (.bin .sub (T 10) (T 12)),so 14 (.bin .sub (T 8) (T 13)),sm 1 14])
 (.seq (.reg [sm 15 1,so 16 (.bin .gtr (T 15) (C 0))])
 (.cond (T 16)
 (.reg [sm 17 0,sm 18 0,so 19 (.capn (T 18)),so 20 (.sl none (T 17) none (some (T 19))),sm 21 1,so 22 (.appz none 8 [(.int .i64 (0))] (T 20) (T 21)),sm 23 0,so 24 (.len false (T 23)),so 25 (.sl none (T 22) none (some (T 24))),sm 0 25])
 .skip)))
 (.seq (.reg [sm 26 0,sm 4 26])
 .ret))))
theorem ZkX:Zam Tryz.prog 27 (Tryz.f117.body.getD .skip)=Zgy:=by kernel_rfl
theorem ZkY:Zaf Tryz.prog Tryz.f117=some [.tmp 4]:=by kernel_rfl
def Zql:SCode :=
 (.seq (.reg [so 4 (.mv (.const (.int .u64 (0)))),so 5 (.mv (.const (.int .u64 (0))))])
 (.seq (.cond (.const (.bool false))
 (.seq (.reg [sm 11 0,so 12 (.ci .u32 (T 11)),sm 13 1,so 14 (.ci .u32 (T 13)),so 15 (.call true Zsr [(T 12),(T 14)]),sm 10 15,so 16 (.ext (T 10) 0),so 17 (.ext (T 10) 1),sm 6 16,sm 7 17])
 (.seq (.reg [sm 18 6,so 19 (.ci .u64 (T 18)),sm 20 7,so 21 (.ci .u64 (T 20)),sm 4 19,sm 5 21])
 .ret))
 .skip)
 (.seq (.reg [sm 23 0,sm 24 1,so 25 (.call true Znm [(T 23),(T 24)]),sm 22 25,so 26 (.ext (T 22) 0),so 27 (.ext (T 22) 1),sm 8 26,sm 9 27])
 (.seq (.reg [sm 28 8,sm 29 9,sm 4 28,sm 5 29])
 .ret))))
theorem ZxP:Zam Tryz.prog 30 (Tryz.f118.body.getD .skip)=Zql:=by kernel_rfl
theorem ZxQ:Zaf Tryz.prog Tryz.f118=some [.tmp 4,.tmp 5]:=by kernel_rfl
def Zg4:SCode :=
 (.seq (.reg [so 6 (.mv (.const (.bool false)))])
 (.seq (.reg [sm 7 1,sm 8 2,so 9 (.bin .sub (C 15) (T 8)),so 10 (.bin .shl (T 7) (T 9)),sm 11 0,so 12 (.nilc (T 11)),so 13 (.faddr 32 (T 12)),so 14 (.load none (T 13)),so 15 (.bin .lss (T 10) (T 14)),sm 6 15])
 .ret))
theorem ZlL:Zam Tryz.prog 16 (Tryz.f127.body.getD .skip)=Zg4:=by kernel_rfl
theorem ZlM:Zaf Tryz.prog Tryz.f127=some [.tmp 6]:=by kernel_rfl
def ZaK:SCode :=
 (.seq (.reg [so 4 (.mv (C 0)),so 5 (.mv (C 0))])
 (.seq (.block 0
 (.seq (.reg [sm 8 1,so 9 (.bin .geq (T 8) (C 29)),sm 7 9])
 (.cond (T 7)
 (.seq (.reg [so 4 (.mv (C 0)),so 5 (.mv (C 3))])
 .ret)
 (.seq (.reg [sm 11 1,so 12 (.bin .eql (T 11) (C 28)),sm 10 12])
 (.cond (T 10)
 (.seq (.reg [so 4 (.mv (C 258)),so 5 (.mv (C 0))])
 .ret)
 (.seq (.reg [sm 14 1,so 15 (.bin .lss (T 14) (C 8)),sm 13 15])
 (.cond (T 13)
 (.seq (.reg [sm 16 1,so 17 (.bin .add (C 3) (T 16)),sm 4 17,so 5 (.mv (C 0))])
 .ret)
 .skip)))))))
 (.seq (.reg [sm 18 1,so 19 (.bin .quo (T 18) (C 4)),so 20 (.bin .sub (T 19) (C 1)),sm 6 20])
 (.seq (.reg [sm 21 0,sm 22 1,so 23 (.bin .rem (T 22) (C 4)),so 24 (.bin .add (C 4) (T 23)),sm 25 6,so 26 (.bin .shl (T 24) (T 25)),so 27 (.bin .add (C 3) (T 26)),sm 28 6,so 29 (.call true Za0 [(T 21),(T 27),(T 28)]),so 30 (.ext (T 29) 0),so 31 (.ext (T 29) 1),sm 4 30,sm 5 31])
 .ret))))
theorem Za6:Zam Tryz.prog 32 (Tryz.f128.body.getD .skip)=ZaK:=by kernel_rfl
theorem Za7:Zaf Tryz.prog Tryz.f128=some [.tmp 4,.tmp 5]:=by kernel_rfl
def ZaV:SCode :=
 (.seq (.reg [so 4 (.mv (C 0)),so 5 (.mv (C 0))])
 (.seq (.block 0
 (.seq (.reg [sm 8 1,so 9 (.bin .geq (T 8) (C 30)),sm 7 9])
 (.cond (T 7)
 (.seq (.reg [so 4 (.mv (C 0)),so 5 (.mv (C 3))])
 .ret)
 (.seq (.reg [sm 11 1,so 12 (.bin .lss (T 11) (C 4)),sm 10 12])
 (.cond (T 10)
 (.seq (.reg [sm 13 1,so 14 (.bin .add (C 1) (T 13)),sm 4 14,so 5 (.mv (C 0))])
 .ret)
 .skip)))))
 (.seq (.reg [sm 15 1,so 16 (.bin .quo (T 15) (C 2)),so 17 (.bin .sub (T 16) (C 1)),sm 6 17])
 (.seq (.reg [sm 18 0,sm 19 1,so 20 (.bin .rem (T 19) (C 2)),so 21 (.bin .add (C 2) (T 20)),sm 22 6,so 23 (.bin .shl (T 21) (T 22)),so 24 (.bin .add (C 1) (T 23)),sm 25 6,so 26 (.call true Za0 [(T 18),(T 24),(T 25)]),so 27 (.ext (T 26) 0),so 28 (.ext (T 26) 1),sm 4 27,sm 5 28])
 .ret))))
theorem Zbp:Zam Tryz.prog 29 (Tryz.f129.body.getD .skip)=ZaV:=by kernel_rfl
theorem Zbq:Zaf Tryz.prog Tryz.f129=some [.tmp 4,.tmp 5]:=by kernel_rfl
def ZoK:SCode :=
 (.seq (.reg [so 2 (.mv (.const (.bool false)))])
 (.seq (.reg [sm 3 0,so 4 (.call true ZgX [(T 3)]),so 5 (.bin .eql (T 4) (C 0)),sm 6 5,sg 7 (.mv (T 0)) 6 true,sg 8 (.call true Zg0 [(T 7)]) 6 true,sg 9 (.bin .eql (T 8) (C 32768)) 6 true,so 10 (.pick (T 6) (T 9) (.const (.bool false))),sm 2 10])
 .ret))
theorem Zux:Zam Tryz.prog 11 (Tryz.f130.body.getD .skip)=ZoK:=by kernel_rfl
theorem Zuy:Zaf Tryz.prog Tryz.f130=some [.tmp 2]:=by kernel_rfl
def Zcq:SCode :=
 (.seq (.reg [so 6 (.mv (C 0)),so 7 (.mv (C 0))])
 (.seq (.reg [sm 11 0,so 12 (.nilc (T 11)),so 13 (.faddr 0 (T 12)),so 14 (.load none (T 13)),sm 15 2,so 16 (.call true Za1 [(T 14),(T 15)]),sm 10 16,so 17 (.ext (T 10) 0),so 18 (.ext (T 10) 1),sm 8 17,sm 9 18])
 (.seq (.seq (.reg [sm 19 9,so 20 (.un .not (T 19))])
 (.cond (T 20)
 (.seq (.reg [so 6 (.mv (C 0)),so 7 (.mv (C 2))])
 .ret)
 .skip))
 (.seq (.reg [sm 21 1,sm 22 8,so 23 (.bin .add (T 21) (T 22)),sm 6 23,so 7 (.mv (C 0))])
 .ret))))
theorem Zec:Zam Tryz.prog 24 (Tryz.f131.body.getD .skip)=Zcq:=by kernel_rfl
theorem Zed:Zaf Tryz.prog Tryz.f131=some [.tmp 6,.tmp 7]:=by kernel_rfl
def Zgz:SCode :=
 (.seq (.reg [so 2 (.mv (.const (.bool false)))])
 (.seq (.reg [so 3 (.mv (C 0))])
 (.seq (.seq (.reg [sm 6 0,so 7 (.len false (T 6)),so 8 (.mv (C 0))])
 (.block 0
 (.loop
 (.seq (.reg [so 9 (.bin .lss (T 8) (T 7))])
 (.seq (.cond (T 9)
 .skip
 (.exit 0))
 (.seq (.block 1
 (.seq (.reg [so 10 (.iaddr none (T 6) (T 8)),so 11 (.load none (T 10)),sm 5 11])
 (.reg [sm 12 3,sm 13 5,so 14 (.bin .add (T 12) (T 13)),sm 3 14])))
 (.reg [so 15 (.bin .add (T 8) (C 1)),sm 8 15])))))))
 (.seq (.reg [sm 16 3,so 17 (.bin .leq (T 16) (C 1)),sm 18 17,sg 19 (.mv (T 0)) 18 false,sg 20 (.call true Zgf [(T 19)]) 18 false,so 21 (.pick (T 18) (.const (.bool true)) (T 20)),sm 2 21])
 .ret))))
theorem ZkZ:Zam Tryz.prog 22 (Tryz.f132.body.getD .skip)=Zgz:=by kernel_rfl
theorem Zk0:Zaf Tryz.prog Tryz.f132=some [.tmp 2]:=by kernel_rfl
def Zg5:SCode :=
 (.seq (.reg [so 4 (.mv (.const (.slice none 0 0)))])
 (.seq (.reg [so 5 (.mv (.const (.slice none 0 0)))])
 (.seq (.seq (.reg [sm 7 1,so 8 (.bin .sub (T 7) (C 1)),sm 6 8])
 (.block 0
 (.loop
 (.seq (.seq (.reg [sm 9 6,so 10 (.bin .geq (T 9) (C 0))])
 (.cond (T 10)
 .skip
 (.exit 0)))
 (.seq (.block 1
 (.reg [sm 13 5,sm 14 0,sm 15 6,so 16 (.ci .u64 (T 15)),so 17 (.bin .shr (T 14) (T 16)),so 18 (.bin .and (T 17) (C 1)),so 19 (.bslice none [(T 18)]),so 20 (.app none 8 (T 13) (T 19)),sm 5 20]))
 (.reg [sm 11 6,so 12 (.bin .sub (T 11) (C 1)),sm 6 12]))))))
 (.seq (.reg [sm 21 5,sm 4 21])
 .ret))))
theorem ZlN:Zam Tryz.prog 22 (Tryz.f133.body.getD .skip)=Zg5:=by kernel_rfl
theorem ZlO:Zaf Tryz.prog Tryz.f133=some [.tmp 4]:=by kernel_rfl
def ZgA:SCode :=
 (.seq (.reg [so 4 (.mv (.const (.bool false)))])
 (.seq (.seq (.reg [sm 6 0,so 7 (.len false (T 6)),sm 8 1,so 9 (.len false (T 8)),so 10 (.bin .gtr (T 7) (T 9))])
 (.cond (T 10)
 (.seq (.reg [so 4 (.mv (.const (.bool false)))])
 .ret)
 .skip))
 (.seq (.seq (.reg [so 5 (.mv (C 0))])
 (.block 0
 (.loop
 (.seq (.seq (.reg [sm 11 5,sm 12 0,so 13 (.len false (T 12)),so 14 (.bin .lss (T 11) (T 13))])
 (.cond (T 14)
 .skip
 (.exit 0)))
 (.seq (.block 1
 (.seq (.reg [sm 17 0,sm 18 5,so 19 (.iaddr none (T 17) (T 18)),so 20 (.load none (T 19)),sm 21 1,sm 22 5,so 23 (.iaddr none (T 21) (T 22)),so 24 (.load none (T 23)),so 25 (.bin .neq (T 20) (T 24))])
 (.cond (T 25)
 (.seq (.reg [so 4 (.mv (.const (.bool false)))])
 .ret)
 .skip)))
 (.reg [sm 15 5,so 16 (.bin .add (T 15) (C 1)),sm 5 16]))))))
 (.seq (.reg [so 4 (.mv (.const (.bool true)))])
 .ret))))
theorem Zk1:Zam Tryz.prog 26 (Tryz.f134.body.getD .skip)=ZgA:=by kernel_rfl
theorem Zk2:Zaf Tryz.prog Tryz.f134=some [.tmp 4]:=by kernel_rfl
def Znq:SCode :=
 (.seq (.reg [so 4 (.mv (.const (.int .u64 (0)))),so 5 (.mv (.const (.int .u64 (0))))])
 (.seq (.reg [sm 14 0,so 15 (.bin .and (T 14) (.const (.int .u64 (4294967295)))),sm 6 15])
 (.seq (.reg [sm 16 0,so 17 (.bin .shr (T 16) (.const (.int .u64 (32)))),sm 7 17])
 (.seq (.reg [sm 18 1,so 19 (.bin .and (T 18) (.const (.int .u64 (4294967295)))),sm 8 19])
 (.seq (.reg [sm 20 1,so 21 (.bin .shr (T 20) (.const (.int .u64 (32)))),sm 9 21])
 (.seq (.reg [sm 22 6,sm 23 8,so 24 (.bin .mul (T 22) (T 23)),sm 10 24])
 (.seq (.reg [sm 25 7,sm 26 8,so 27 (.bin .mul (T 25) (T 26)),sm 28 10,so 29 (.bin .shr (T 28) (.const (.int .u64 (32)))),so 30 (.bin .add (T 27) (T 29)),sm 11 30])
 (.seq (.reg [sm 31 11,so 32 (.bin .and (T 31) (.const (.int .u64 (4294967295)))),sm 12 32])
 (.seq (.reg [sm 33 11,so 34 (.bin .shr (T 33) (.const (.int .u64 (32)))),sm 13 34])
 (.seq (.reg [sm 35 12,sm 36 6,sm 37 9,so 38 (.bin .mul (T 36) (T 37)),so 39 (.bin .add (T 35) (T 38)),sm 12 39])
 (.seq (.reg [sm 40 7,sm 41 9,so 42 (.bin .mul (T 40) (T 41)),sm 43 13,so 44 (.bin .add (T 42) (T 43)),sm 45 12,so 46 (.bin .shr (T 45) (.const (.int .u64 (32)))),so 47 (.bin .add (T 44) (T 46)),sm 4 47])
 (.seq (.reg [sm 48 0,sm 49 1,so 50 (.bin .mul (T 48) (T 49)),sm 5 50])
 .ret))))))))))))
theorem Zsw:Zam Tryz.prog 51 (Tryz.f142.body.getD .skip)=Znq:=by kernel_rfl
theorem Zsx:Zaf Tryz.prog Tryz.f142=some [.tmp 4,.tmp 5]:=by kernel_rfl
def ZfF:SCode :=
 (.seq (.reg [so 0 (.mv (.const (.bool false)))])
 (.seq (.reg [so 6 (.bsl none [(.const (.int .u8 (97)))]),so 7 (.strz (T 6)),so 8 (.call true Zbe [(T 7),(C 0)]),sm 5 8,so 9 (.ext (T 5) 0),so 10 (.ext (T 5) 1),sm 1 9,sm 2 10])
 (.seq (.reg [so 12 (.call true Zbe [(.const (.slice none 0 0)),(C 1)]),sm 11 12,so 13 (.ext (T 11) 0),so 14 (.ext (T 11) 1),sm 3 13,sm 4 14])
 (.seq (.reg [sm 15 1,so 16 (.b2s (T 15)),so 17 (.bin .eql (T 16) (.const (.string ⟨#[1,1,0,254,255,97]⟩))),sm 18 17,sg 19 (.mv (T 2)) 18 true,sg 20 (.bin .eql (T 19) (C 0)) 18 true,so 21 (.pick (T 18) (T 20) (.const (.bool false))),sm 22 21,sg 23 (.mv (T 3)) 22 true,sg 24 (.b2s (T 23)) 22 true,sg 25 (.bin .eql (T 24) (.const (.string ⟨#[3,0]⟩))) 22 true,so 26 (.pick (T 22) (T 25) (.const (.bool false))),sm 27 26,sg 28 (.mv (T 4)) 27 true,sg 29 (.bin .eql (T 28) (C 0)) 27 true,so 30 (.pick (T 27) (T 29) (.const (.bool false))),sm 0 30])
 .ret))))
theorem Zkk:Zam Tryz.prog 31 (Tryz.f5.body.getD .skip)=ZfF:=by kernel_rfl
theorem Zkl:Zaf Tryz.prog Tryz.f5=some [.tmp 0]:=by kernel_rfl
def ZiP:SCode :=
 (.seq (.reg [so 0 (.mv (.const (.pointer none)))])
 (.seq (.reg [so 1 (.build [(.slice none 0 0),(.int .i64 (0))] []),so 2 (.box (T 1)),sm 0 2])
 .ret))
theorem ZnM:Zam Tryz.prog 3 (Tryz.f13.body.getD .skip)=ZiP:=by kernel_rfl
theorem ZnN:Zaf Tryz.prog Tryz.f13=some [.tmp 0]:=by kernel_rfl
def Zee:SCode :=
 (.seq (.reg [so 2 (.box (T 0))])
 (.seq (.block 0
 (.loop
 (.seq (.seq (.reg [sm 4 1,so 5 (.len false (T 4)),so 6 (.bin .gtr (T 5) (C 65535))])
 (.cond (T 6)
 .skip
 (.exit 0)))
 (.block 1
 (.seq (.reg [so 7 (.load (some 1) (T 2)),sm 8 1,so 9 (.sl none (T 8) none (some (C 65535))),so 10 (.call true ZbL [(T 7),(C 0),(T 9)])])
 (.reg [sm 11 1,so 12 (.sl none (T 11) (some (C 65535)) none),sm 1 12]))))))
 (.reg [so 13 (.load (some 1) (T 2)),sm 14 1,so 15 (.call true ZbL [(T 13),(C 1),(T 14)])])))
theorem Zim:Zam Tryz.prog 16 (Tryz.f14.body.getD .skip)=Zee:=by kernel_rfl
theorem Zin:Zaf Tryz.prog Tryz.f14=some []:=by kernel_rfl
def ZeD:SCode :=
 (.seq (.reg [so 2 (.box (T 0))])
 (.seq (.reg [so 4 (.load (some 1) (T 2)),so 5 (.call true ZbZ [(T 4),(C 1),(C 1)])])
 (.reg3 [so 6 (.load (some 1) (T 2)),sm 7 1,so 8 (.call true Zfu [])]
 [((some 1),(T 2),6)]
 [so 9 (.call true Zco [(T 6),(T 7),(T 8)])])))
theorem ZiZ:Zam Tryz.prog 10 (Tryz.f15.body.getD .skip)=ZeD:=by kernel_rfl
theorem Zi0:Zaf Tryz.prog Tryz.f15=some []:=by kernel_rfl
def Zg6:SCode :=
 (.seq (.reg [so 1 (.box (T 0)),so 2 (.mv (.const (.slice none 0 0)))])
 (.seq (.reg [so 3 (.alloc [(.slice none 0 0)])])
 (.seq (.reg [so 4 (.alloc [(.int .i64 (0))]),sn (.store none (T 4) (C 0))])
 (.seq (.reg [so 6 (.mkf Zbs [(T 1),(T 4),(T 3)]),so 5 (.alloc [.nilFunc]),sn (.store none (T 5) (T 6))])
 (.seq (.reg [so 7 (.load none (T 1)),so 8 (.mkf Zbt [(T 5),(T 3),(T 4)]),so 9 (.call true ZhB [(T 7),(T 8)])])
 (.seq (.reg [so 10 (.load none (T 5)),so 11 (.load none (T 1)),so 12 (.len false (T 11)),so 13 (.callv true (T 10) [(T 12)])])
 (.seq (.reg [so 14 (.load none (T 3)),sm 2 14])
 .ret)))))))
theorem ZlP:Zam Tryz.prog 15 (Tryz.f16.body.getD .skip)=Zg6:=by kernel_rfl
theorem ZlQ:Zaf Tryz.prog Tryz.f16=some [.tmp 2]:=by kernel_rfl
def ZdZ:SCode :=
 (.seq (.reg [so 2 (.box (T 0))])
 (.seq (.reg [sm 5 1,so 6 (.call true Zgb [(T 5)]),so 4 (.alloc [(.slice none 0 0),(.slice none 0 0),(.slice none 0 0),(.slice none 0 0)]),sn (.store (some 4) (T 4) (T 6))])
 (.seq (.reg [so 7 (.load (some 1) (T 2)),so 8 (.call true ZbZ [(T 7),(C 1),(C 2)])])
 (.seq (.reg [so 9 (.load (some 1) (T 2)),so 10 (.load (some 4) (T 4)),so 11 (.call true Ze4 [(T 9),(T 10)])])
 (.reg [so 12 (.load (some 1) (T 2)),sm 13 1,so 14 (.load (some 4) (T 4)),so 15 (.call true Zco [(T 12),(T 13),(T 14)])])))))
theorem ZhN:Zam Tryz.prog 16 (Tryz.f17.body.getD .skip)=ZdZ:=by kernel_rfl
theorem ZhO:Zaf Tryz.prog Tryz.f17=some []:=by kernel_rfl
def ZgB:SCode :=
 (.seq (.reg [so 2 (.mv (.const (.slice none 0 0)))])
 (.seq (.reg [sm 3 0,so 4 (.nilc (T 3)),so 5 (.faddr 0 (T 4)),so 6 (.load none (T 5)),so 7 (.call true Zd6 [(T 6)]),sm 2 7])
 .ret))
theorem Zk3:Zam Tryz.prog 8 (Tryz.f18.body.getD .skip)=ZgB:=by kernel_rfl
theorem Zk4:Zaf Tryz.prog Tryz.f18=some [.tmp 2]:=by kernel_rfl
def ZcI:SCode :=
 (.seq (.reg [so 3 (.box (T 0))])
 (.seq (.reg [so 6 (.load (some 1) (T 3)),sm 7 1,so 8 (.call true ZbZ [(T 6),(T 7),(C 0)])])
 (.seq (.reg [so 9 (.faddr 0 (T 3)),so 10 (.load none (T 9)),so 11 (.call true ZdN [(T 10)])])
 (.seq (.reg [so 12 (.faddr 0 (T 3)),so 13 (.load none (T 12)),sm 14 2,so 15 (.len false (T 14)),so 16 (.call true ZaE [(T 13),(T 15),(C 16)])])
 (.seq (.reg [so 17 (.faddr 0 (T 3)),so 18 (.load none (T 17)),sm 19 2,so 20 (.len false (T 19)),so 21 (.bin .sub (C 65535) (T 20)),so 22 (.call true ZaE [(T 18),(T 21),(C 16)])])
 (.reg [so 23 (.faddr 0 (T 3)),so 24 (.load none (T 23)),sm 25 2,so 26 (.call true ZhD [(T 24),(T 25)])]))))))
theorem ZfQ:Zam Tryz.prog 27 (Tryz.f33.body.getD .skip)=ZcI:=by kernel_rfl
theorem ZfR:Zaf Tryz.prog Tryz.f33=some []:=by kernel_rfl
def ZeE:SCode :=
 (.seq (.reg [so 3 (.box (T 0))])
 (.seq (.reg [so 6 (.faddr 0 (T 3)),so 7 (.load none (T 6)),sm 8 1,so 9 (.call true ZaE [(T 7),(T 8),(C 1)])])
 (.reg [so 10 (.faddr 0 (T 3)),so 11 (.load none (T 10)),sm 12 2,so 13 (.call true ZaE [(T 11),(T 12),(C 2)])])))
theorem Zi1:Zam Tryz.prog 14 (Tryz.f34.body.getD .skip)=ZeE:=by kernel_rfl
theorem Zi2:Zaf Tryz.prog Tryz.f34=some []:=by kernel_rfl
def Zef:SCode :=
 (.seq (.reg [so 3 (.box (T 0)),so 5 (.box (T 2))])
 (.seq (.seq (.reg [sm 8 1,so 9 (.len false (T 8)),so 10 (.mv (C 0))])
 (.block 0
 (.loop
 (.seq (.reg [so 11 (.bin .lss (T 10) (T 9))])
 (.seq (.cond (T 11)
 .skip
 (.exit 0))
 (.seq (.block 1
 (.seq (.reg [so 12 (.iaddr (some 2) (T 8) (T 10)),so 13 (.load (some 2) (T 12)),so 7 (.alloc [(.int .u16 (0)),(.int .u16 (0))]),sn (.store (some 2) (T 7) (T 13))])
 (.seq (.reg3 [so 14 (.load (some 1) (T 3)),so 15 (.faddr 0 (T 5)),so 16 (.load (some 2) (T 15)),so 17 (.load (some 2) (T 7)),so 18 (.call true Zcp [(T 17)])]
 [((some 1),(T 3),14),((some 2),(T 15),16)]
 [so 19 (.call true Zbn [(T 14),(T 16),(T 18)])])
 (.seq (.reg [so 20 (.load (some 2) (T 7)),so 21 (.call true Zb6 [(T 20)])])
 (.cond (T 21)
 (.reg3 [so 22 (.load (some 1) (T 3)),so 23 (.faddr 2 (T 5)),so 24 (.load (some 2) (T 23)),so 25 (.load (some 2) (T 7)),so 26 (.call true Zcl [(T 25)])]
 [((some 1),(T 3),22),((some 2),(T 23),24)]
 [so 27 (.call true Zbn [(T 22),(T 24),(T 26)])])
 .skip)))))
 (.reg [so 28 (.bin .add (T 10) (C 1)),sm 10 28])))))))
 (.reg [so 29 (.load (some 1) (T 3)),so 30 (.faddr 0 (T 5)),so 31 (.load (some 2) (T 30)),so 32 (.build [(.int .i64 (0)),(.int .i64 (0)),(.int .i64 (0))] [(0,1,(C 256))]),so 33 (.call true Zbn [(T 29),(T 31),(T 32)])])))
theorem Zio:Zam Tryz.prog 34 (Tryz.f35.body.getD .skip)=Zef:=by kernel_rfl
theorem Zip:Zaf Tryz.prog Tryz.f35=some []:=by kernel_rfl
def ZfG:SCode :=
 (.seq (.reg [so 0 (.alloc [(.slice none 0 0),(.slice none 0 0),(.slice none 0 0),(.slice none 0 0)])])
 (.seq (.reg [so 1 (.bsl none [(C 8)]),so 2 (.call true Zay [(T 1),(C 144)]),so 3 (.bsl none [(C 9)]),so 4 (.call true Zay [(T 3),(C 112)]),so 5 (.bsl none [(C 7)]),so 6 (.call true Zay [(T 5),(C 24)]),so 7 (.bsl none [(C 8)]),so 8 (.call true Zay [(T 7),(C 8)]),so 9 (.bslice none [(T 2),(T 4),(T 6),(T 8)]),so 10 (.call true Zbf [(T 9)]),so 11 (.call true ZdG [(T 10)]),so 12 (.bsl none [(C 5)]),so 13 (.call true Zay [(T 12),(C 32)]),so 14 (.call true ZdG [(T 13)]),so 15 (.build [(.slice none 0 0),(.slice none 0 0),(.slice none 0 0),(.slice none 0 0)] [(0,2,(T 11)),(2,2,(T 14))]),sn (.store (some 4) (T 0) (T 15))])
 .ret))
theorem Zkm:Zam Tryz.prog 16 (Tryz.f36.body.getD .skip)=ZfG:=by kernel_rfl
theorem Zkn:Zaf Tryz.prog Tryz.f36=some [.cell 0 (some 4)]:=by kernel_rfl
def ZfH:SCode :=
 (.seq (.reg [so 7 (.load none (T 1)),so 8 (.load none (T 2)),sm 9 0,so 10 (.sl none (T 7) (some (T 8)) (some (T 9))),so 11 (.len false (T 10)),so 12 (.mv (C 0))])
 (.block 0
 (.loop
 (.seq (.reg [so 13 (.bin .lss (T 12) (T 11))])
 (.seq (.cond (T 13)
 .skip
 (.exit 0))
 (.seq (.block 1
 (.seq (.reg [so 14 (.iaddr none (T 10) (T 12)),so 15 (.load none (T 14)),sm 6 15])
 (.reg [so 16 (.load none (T 3)),sm 17 6,so 18 (.ci .u16 (T 17)),so 19 (.build [(.int .u16 (0)),(.int .u16 (0))] [(0,1,(T 18))]),so 20 (.bslice (some 2) [(T 19)]),so 21 (.app (some 2) 4 (T 16) (T 20)),sn (.store none (T 3) (T 21))])))
 (.reg [so 22 (.bin .add (T 12) (C 1)),sm 12 22])))))))
theorem Zko:Zam Tryz.prog 23 (Tryz.f37.body.getD .skip)=ZfH:=by kernel_rfl
theorem Zkp:Zaf Tryz.prog Tryz.f37=some []:=by kernel_rfl
def ZhP:SCode :=
 (.seq (.reg [sm 8 0,so 9 (.call true Zgc [(T 8)]),sm 4 9])
 (.seq (.reg [so 5 (.mv (C 0))])
 (.block 0
 (.loop
 (.seq (.seq (.reg [sm 10 5,sm 11 0,so 12 (.len false (T 11)),so 13 (.bin .lss (T 10) (T 12))])
 (.cond (T 13)
 .skip
 (.exit 0)))
 (.block 1
 (.seq (.reg [sm 15 4,sm 16 5,so 17 (.call true ZdU [(T 15),(T 16)]),sm 14 17,so 18 (.ext (T 14) 0),so 19 (.ext (T 14) 1),sm 6 18,sm 7 19])
 (.seq (.seq (.reg [sm 20 6,so 21 (.bin .gtr (T 20) (C 0))])
 (.cond (T 21)
 (.reg [sm 22 1,sm 23 5,sm 24 6,sm 25 7,so 26 (.callv true (T 22) [(T 23),(T 24),(T 25)])])
 .skip))
 (.seq (.reg [sm 27 6,so 28 (.mm true (T 27) [(C 1)]),so 29 (.mv (C 0))])
 (.block 2
 (.loop
 (.seq (.reg [so 30 (.bin .lss (T 29) (T 28))])
 (.seq (.cond (T 30)
 .skip
 (.exit 2))
 (.seq (.block 3
 (.seq (.reg [sm 31 4,sm 32 5,so 33 (.call true Zft [(T 31),(T 32)])])
 (.reg [sm 34 5,so 35 (.bin .add (T 34) (C 1)),sm 5 35])))
 (.reg [so 36 (.bin .add (T 29) (C 1)),sm 29 36])))))))))))))))
theorem ZmL:Zam Tryz.prog 37 (Tryz.f38.body.getD .skip)=ZhP:=by kernel_rfl
theorem ZmM:Zaf Tryz.prog Tryz.f38=some []:=by kernel_rfl
def ZfI:SCode :=
 (.seq (.reg [so 9 (.load none (T 3)),sm 10 0,so 11 (.callv true (T 9) [(T 10)])])
 (.seq (.reg [so 12 (.load none (T 4)),sm 13 1,so 14 (.ci .u16 (T 13)),sm 15 2,so 16 (.ci .u16 (T 15)),so 17 (.build [(.int .u16 (0)),(.int .u16 (0))] [(0,1,(T 14)),(1,1,(T 16))]),so 18 (.bslice (some 2) [(T 17)]),so 19 (.app (some 2) 4 (T 12) (T 18)),sn (.store none (T 4) (T 19))])
 (.reg [sm 20 0,sm 21 1,so 22 (.bin .add (T 20) (T 21)),sn (.store none (T 5) (T 22))])))
theorem Zkq:Zam Tryz.prog 23 (Tryz.f39.body.getD .skip)=ZfI:=by kernel_rfl
theorem Zkr:Zaf Tryz.prog Tryz.f39=some []:=by kernel_rfl
def ZgC:SCode :=
 (.seq (.reg [so 2 (.alloc [(.slice none 0 0),(.slice none 0 0),(.slice none 0 0),(.slice none 0 0)])])
 (.seq (.reg2 [so 7 (.mks none 8 [(.int .i64 (0))] (C 286) (C 286)),so 8 (.mks none 8 [(.int .i64 (0))] (C 30) (C 30)),sm 3 7,sm 4 8])
 (.seq (.seq (.reg [sm 9 0,so 10 (.len false (T 9)),so 11 (.mv (C 0))])
 (.block 0
 (.loop
 (.seq (.reg [so 12 (.bin .lss (T 11) (T 10))])
 (.seq (.cond (T 12)
 .skip
 (.exit 0))
 (.seq (.block 1
 (.seq (.reg [so 13 (.iaddr (some 2) (T 9) (T 11)),so 14 (.load (some 2) (T 13)),so 6 (.alloc [(.int .u16 (0)),(.int .u16 (0))]),sn (.store (some 2) (T 6) (T 14))])
 (.seq (.reg [sm 15 3,so 16 (.load (some 2) (T 6)),so 17 (.call true Zcp [(T 16)]),so 18 (.fld 0 none (T 17)),so 19 (.iaddr none (T 15) (T 18)),so 20 (.load none (T 19)),so 21 (.bin .add (T 20) (C 1)),so 22 (.iaddr none (T 15) (T 18)),sn (.store none (T 22) (T 21))])
 (.seq (.reg [so 23 (.load (some 2) (T 6)),so 24 (.call true Zb6 [(T 23)])])
 (.cond (T 24)
 (.reg [sm 25 4,so 26 (.load (some 2) (T 6)),so 27 (.call true Zcl [(T 26)]),so 28 (.fld 0 none (T 27)),so 29 (.iaddr none (T 25) (T 28)),so 30 (.load none (T 29)),so 31 (.bin .add (T 30) (C 1)),so 32 (.iaddr none (T 25) (T 28)),sn (.store none (T 32) (T 31))])
 .skip)))))
 (.reg [so 33 (.bin .add (T 11) (C 1)),sm 11 33])))))))
 (.seq (.reg [sm 34 3,so 35 (.iaddr none (T 34) (C 256)),so 36 (.load none (T 35)),so 37 (.bin .add (T 36) (C 1)),so 38 (.iaddr none (T 34) (C 256)),sn (.store none (T 38) (T 37))])
 (.seq (.seq (.reg [sm 39 0,so 40 (.len false (T 39)),so 41 (.bin .eql (T 40) (C 0))])
 (.cond (T 41)
 (.reg [sm 42 3,so 43 (.iaddr none (T 42) (C 0)),so 44 (.load none (T 43)),so 45 (.bin .add (T 44) (C 1)),so 46 (.iaddr none (T 42) (C 0)),sn (.store none (T 46) (T 45))])
 .skip))
 (.seq (.reg [sm 47 3,so 48 (.call true ZcE [(T 47),(C 15)]),sm 49 4,so 50 (.call true ZcE [(T 49),(C 15)]),so 51 (.build [(.slice none 0 0),(.slice none 0 0),(.slice none 0 0),(.slice none 0 0)] [(0,2,(T 48)),(2,2,(T 50))]),sn (.store (some 4) (T 2) (T 51))])
 .ret))))))
theorem Zk5:Zam Tryz.prog 52 (Tryz.f40.body.getD .skip)=ZgC:=by kernel_rfl
theorem Zk6:Zaf Tryz.prog Tryz.f40=some [.cell 2 (some 4)]:=by kernel_rfl
def Zfa:SCode :=
 (.seq (.reg [so 2 (.box (T 0)),so 3 (.box (T 1))])
 (.seq (.reg [so 15 (.faddr 0 (T 3)),so 16 (.faddr 0 (T 15)),so 17 (.load none (T 16)),so 18 (.call false ZfN [(T 17),(C 257)]),so 19 (.faddr 2 (T 3)),so 20 (.faddr 0 (T 19)),so 21 (.load none (T 20)),so 22 (.call true ZfN [(T 21),(C 1)]),sm 4 18,sm 5 22])
 (.seq (.reg [sm 23 4,sm 24 5,so 25 (.bsl none [(T 23),(T 24)]),so 26 (.call true Zbf [(T 25)]),so 27 (.call true ZhC [(T 26)]),sm 6 27])
 (.seq (.reg [sm 28 6,so 29 (.call true Zfs [(T 28)]),so 7 (.alloc [(.slice none 0 0),(.slice none 0 0)]),sn (.store (some 2) (T 7) (T 29))])
 (.seq (.reg [so 8 (.mv (.const (.slice none 0 0)))])
 (.seq (.seq (.reg [so 30 (.load (some 19) (.global 0)),so 31 (.mv (C 0))])
 (.block 0
 (.loop
 (.seq (.reg [so 32 (.bin .lss (T 31) (C 19))])
 (.seq (.cond (T 32)
 .skip
 (.exit 0))
 (.seq (.block 1
 (.seq (.reg [so 33 (.idxA 19 none (T 30) (T 31)),sm 10 33])
 (.reg [sm 34 8,so 35 (.faddr 0 (T 7)),so 36 (.load none (T 35)),sm 37 10,so 38 (.iaddr none (T 36) (T 37)),so 39 (.load none (T 38)),so 40 (.bslice none [(T 39)]),so 41 (.app none 8 (T 34) (T 40)),sm 8 41])))
 (.reg [so 42 (.bin .add (T 31) (C 1)),sm 31 42])))))))
 (.seq (.reg [sm 43 8,so 44 (.call true ZfN [(T 43),(C 4)]),sm 8 44])
 (.seq (.reg [so 45 (.faddr 0 (T 2)),so 46 (.load none (T 45)),sm 47 4,so 48 (.len false (T 47)),so 49 (.bin .sub (T 48) (C 257)),so 50 (.call true ZaE [(T 46),(T 49),(C 5)])])
 (.seq (.reg [so 51 (.faddr 0 (T 2)),so 52 (.load none (T 51)),sm 53 5,so 54 (.len false (T 53)),so 55 (.bin .sub (T 54) (C 1)),so 56 (.call true ZaE [(T 52),(T 55),(C 5)])])
 (.seq (.reg [so 57 (.faddr 0 (T 2)),so 58 (.load none (T 57)),sm 59 8,so 60 (.len false (T 59)),so 61 (.bin .sub (T 60) (C 4)),so 62 (.call true ZaE [(T 58),(T 61),(C 4)])])
 (.seq (.seq (.reg [sm 63 8,so 64 (.len false (T 63)),so 65 (.mv (C 0))])
 (.block 2
 (.loop
 (.seq (.reg [so 66 (.bin .lss (T 65) (T 64))])
 (.seq (.cond (T 66)
 .skip
 (.exit 2))
 (.seq (.block 3
 (.seq (.reg [so 67 (.iaddr none (T 63) (T 65)),so 68 (.load none (T 67)),sm 12 68])
 (.reg [so 69 (.faddr 0 (T 2)),so 70 (.load none (T 69)),sm 71 12,so 72 (.call true ZaE [(T 70),(T 71),(C 3)])])))
 (.reg [so 73 (.bin .add (T 65) (C 1)),sm 65 73])))))))
 (.seq (.reg [sm 74 6,so 75 (.len false (T 74)),so 76 (.mv (C 0))])
 (.block 4
 (.loop
 (.seq (.reg [so 77 (.bin .lss (T 76) (T 75))])
 (.seq (.cond (T 77)
 .skip
 (.exit 4))
 (.seq (.block 5
 (.seq (.reg [so 78 (.iaddr (some 3) (T 74) (T 76)),so 79 (.load (some 3) (T 78)),so 14 (.alloc [(.int .i64 (0)),(.int .i64 (0)),(.int .i64 (0))]),sn (.store (some 3) (T 14) (T 79))])
 (.reg [so 80 (.load (some 1) (T 2)),so 81 (.load (some 2) (T 7)),so 82 (.load (some 3) (T 14)),so 83 (.call true Zbn [(T 80),(T 81),(T 82)])])))
 (.reg [so 84 (.bin .add (T 76) (C 1)),sm 76 84]))))))))))))))))))
theorem Zjm:Zam Tryz.prog 85 (Tryz.f41.body.getD .skip)=Zfa:=by kernel_rfl
theorem Zjn:Zaf Tryz.prog Tryz.f41=some []:=by kernel_rfl
def ZgD:SCode :=
 (.reg [sm 2 0,sm 3 0,so 4 (.nilc (T 3)),so 5 (.faddr 0 (T 4)),so 6 (.load none (T 5)),so 7 (.len false (T 6)),so 8 (.bin .mul (T 7) (C 8)),so 9 (.nilc (T 2)),so 10 (.faddr 1 (T 9)),sn (.store none (T 10) (T 8))])
theorem Zk7:Zam Tryz.prog 11 (Tryz.f67.body.getD .skip)=ZgD:=by kernel_rfl
theorem Zk8:Zaf Tryz.prog Tryz.f67=some []:=by kernel_rfl
def ZhQ:SCode :=
 (.seq (.seq (.reg [sm 7 2,so 8 (.bin .lss (T 7) (C 0)),sm 9 8,sg 10 (.mv (T 2)) 9 false,sg 11 (.bin .gtr (T 10) (C 24)) 9 false,so 12 (.pick (T 9) (.const (.bool true)) (T 11))])
 (.cond (T 12)
 .ret
 .skip))
 (.seq (.reg [sm 13 2,so 14 (.mv (C 0))])
 (.block 0
 (.loop
 (.seq (.reg [so 15 (.bin .lss (T 14) (T 13))])
 (.seq (.cond (T 15)
 .skip
 (.exit 0))
 (.seq (.block 1
 (.seq (.reg [sm 16 14,sm 6 16])
 (.reg [sm 17 0,sm 18 1,sm 19 6,so 20 (.bin .shr (T 18) (T 19)),so 21 (.bin .and (T 20) (C 1)),so 22 (.call true ZeS [(T 17),(T 21)])])))
 (.reg [so 23 (.bin .add (T 14) (C 1)),sm 14 23]))))))))
theorem ZmN:Zam Tryz.prog 24 (Tryz.f68.body.getD .skip)=ZhQ:=by kernel_rfl
theorem ZmO:Zaf Tryz.prog Tryz.f68=some []:=by kernel_rfl
def ZhR:SCode :=
 (.seq (.reg [sm 4 0,sm 5 0,so 6 (.nilc (T 5)),so 7 (.faddr 0 (T 6)),so 8 (.load none (T 7)),sm 9 1,so 10 (.app none 1 (T 8) (T 9)),so 11 (.nilc (T 4)),so 12 (.faddr 0 (T 11)),sn (.store none (T 12) (T 10))])
 (.reg [sm 13 0,so 14 (.call true ZdN [(T 13)])]))
theorem ZmP:Zam Tryz.prog 15 (Tryz.f69.body.getD .skip)=ZhR:=by kernel_rfl
theorem ZmQ:Zaf Tryz.prog Tryz.f69=some []:=by kernel_rfl
def Zeg:SCode :=
 (.seq (.reg [so 3 (.box (T 0)),so 4 (.box (T 1)),so 5 (.box (T 2))])
 (.seq (.reg [so 6 (.faddr 0 (T 3)),so 7 (.load none (T 6)),so 8 (.faddr 1 (T 4)),so 9 (.load none (T 8)),so 10 (.faddr 0 (T 5)),so 11 (.load none (T 10)),so 12 (.iaddr none (T 9) (T 11)),so 13 (.load none (T 12)),so 14 (.faddr 0 (T 4)),so 15 (.load none (T 14)),so 16 (.faddr 0 (T 5)),so 17 (.load none (T 16)),so 18 (.iaddr none (T 15) (T 17)),so 19 (.load none (T 18)),so 20 (.call true ZgZ [(T 7),(T 13),(T 19)])])
 (.reg [so 21 (.faddr 0 (T 3)),so 22 (.load none (T 21)),so 23 (.faddr 1 (T 5)),so 24 (.load none (T 23)),so 25 (.faddr 2 (T 5)),so 26 (.load none (T 25)),so 27 (.call true ZaE [(T 22),(T 24),(T 26)])])))
theorem Ziq:Zam Tryz.prog 28 (Tryz.f70.body.getD .skip)=Zeg:=by kernel_rfl
theorem Zir:Zaf Tryz.prog Tryz.f70=some []:=by kernel_rfl
def Zeh:SCode :=
 (.seq (.reg [so 1 (.box (T 0)),so 2 (.alloc [(.int .i64 (0)),(.int .i64 (0)),(.int .i64 (0))])])
 (.seq (.seq (.reg [so 4 (.load (some 2) (T 1)),so 5 (.call true Zb6 [(T 4)]),so 6 (.un .not (T 5))])
 (.cond (T 6)
 (.seq (.reg [so 7 (.faddr 0 (T 1)),so 8 (.load none (T 7)),so 9 (.ci .i64 (T 8)),so 10 (.build [(.int .i64 (0)),(.int .i64 (0)),(.int .i64 (0))] [(0,1,(T 9))]),sn (.store (some 3) (T 2) (T 10))])
 .ret)
 .skip))
 (.seq (.seq (.reg [so 11 (.faddr 0 (T 1)),so 12 (.load none (T 11)),so 13 (.bin .eql (T 12) (.const (.int .u16 (258))))])
 (.cond (T 13)
 (.seq (.reg [so 14 (.build [(.int .i64 (0)),(.int .i64 (0)),(.int .i64 (0))] [(0,1,(C 285))]),sn (.store (some 3) (T 2) (T 14))])
 .ret)
 .skip))
 (.seq (.reg [so 15 (.faddr 0 (T 1)),so 16 (.load none (T 15)),so 17 (.ci .i64 (T 16)),so 18 (.bin .sub (T 17) (C 3)),so 19 (.call true Zd9 [(T 18),(C 2)]),so 3 (.alloc [(.int .i64 (0)),(.int .i64 (0)),(.int .i64 (0))]),sn (.store (some 3) (T 3) (T 19))])
 (.seq (.reg [so 20 (.faddr 0 (T 3)),so 21 (.load none (T 20)),so 22 (.bin .add (T 21) (C 257)),so 23 (.faddr 0 (T 3)),sn (.store none (T 23) (T 22))])
 (.seq (.reg [so 24 (.load (some 3) (T 3)),sn (.store (some 3) (T 2) (T 24))])
 .ret))))))
theorem Zis:Zam Tryz.prog 25 (Tryz.f71.body.getD .skip)=Zeh:=by kernel_rfl
theorem Zit:Zaf Tryz.prog Tryz.f71=some [.cell 2 (some 3)]:=by kernel_rfl
def Zfb:SCode :=
 (.seq (.reg [so 1 (.box (T 0)),so 2 (.mv (.const (.bool false)))])
 (.seq (.reg [so 3 (.faddr 1 (T 1)),so 4 (.load none (T 3)),so 5 (.bin .gtr (T 4) (.const (.int .u16 (0)))),sm 2 5])
 .ret))
theorem Zjo:Zam Tryz.prog 6 (Tryz.f72.body.getD .skip)=Zfb:=by kernel_rfl
theorem Zjp:Zaf Tryz.prog Tryz.f72=some [.tmp 2]:=by kernel_rfl
def Zd0:SCode :=
 (.seq (.reg [so 1 (.box (T 0)),so 2 (.alloc [(.int .i64 (0)),(.int .i64 (0)),(.int .i64 (0))])])
 (.seq (.reg [so 3 (.faddr 1 (T 1)),so 4 (.load none (T 3)),so 5 (.ci .i64 (T 4)),so 6 (.bin .sub (T 5) (C 1)),so 7 (.call true Zd9 [(T 6),(C 1)]),sn (.store (some 3) (T 2) (T 7))])
 .ret))
theorem ZhS:Zam Tryz.prog 8 (Tryz.f73.body.getD .skip)=Zd0:=by kernel_rfl
theorem ZhT:Zaf Tryz.prog Tryz.f73=some [.cell 2 (some 3)]:=by kernel_rfl
def ZiQ:SCode :=
 (.seq (.reg [so 2 (.alloc [(.slice none 0 0),(.slice none 0 0)])])
 (.seq (.reg [sm 6 0,so 7 (.call true Zjg [(T 6)]),sm 5 7,so 8 (.ext (T 5) 0),so 9 (.ext (T 5) 1),sm 3 8,sm 4 9])
 (.seq (.reg [sm 10 0,sm 11 3,so 12 (.build [(.slice none 0 0),(.slice none 0 0)] [(0,1,(T 10)),(1,1,(T 11))]),sn (.store (some 2) (T 2) (T 12))])
 .ret)))
theorem ZnO:Zam Tryz.prog 13 (Tryz.f74.body.getD .skip)=ZiQ:=by kernel_rfl
theorem ZnP:Zaf Tryz.prog Tryz.f74=some [.cell 2 (some 2)]:=by kernel_rfl
def ZgE:SCode :=
 (.seq (.reg [so 2 (.mv (.const (.pointer none)))])
 (.seq (.reg [sm 4 0,so 5 (.mkm),sm 6 0,so 7 (.len false (T 6)),so 8 (.mm false (T 7) [(C 32768)]),so 9 (.mks none 8 [(.int .i64 (0))] (T 8) (T 8)),so 10 (.build [(.slice none 0 0),(.map none),(.slice none 0 0),(.int .i64 (0))] [(0,1,(T 4)),(1,1,(T 5)),(2,1,(T 9)),(3,1,(C 256))]),so 11 (.box (T 10)),sm 3 11])
 (.seq (.seq (.reg [sm 12 0,so 13 (.len false (T 12)),so 14 (.bin .leq (T 13) (C 16000))])
 (.cond (T 14)
 (.reg [sm 15 3,sm 16 0,so 17 (.len false (T 16)),so 18 (.nilc (T 15)),so 19 (.faddr 3 (T 18)),sn (.store none (T 19) (T 17))])
 .skip))
 (.seq (.reg [sm 20 3,sm 2 20])
 .ret))))
theorem Zk9:Zam Tryz.prog 21 (Tryz.f77.body.getD .skip)=ZgE:=by kernel_rfl
theorem Zla:Zaf Tryz.prog Tryz.f77=some [.tmp 2]:=by kernel_rfl
def Zd1:SCode :=
 (.seq (.reg [so 4 (.mv (C 0)),so 5 (.mv (C 0))])
 (.seq (.reg [sm 9 0,so 10 (.nilc (T 9)),so 11 (.faddr 0 (T 10)),so 12 (.load none (T 11)),so 13 (.len false (T 12)),sm 14 1,so 15 (.bin .sub (T 13) (T 14)),so 16 (.mm false (C 258) [(T 15)]),sm 6 16])
 (.seq (.reg [sm 17 0,sm 18 1,so 19 (.call true Zcb [(T 17),(T 18)]),sm 7 19])
 (.seq (.seq (.reg [sm 20 0,so 21 (.nilc (T 20)),so 22 (.faddr 3 (T 21)),so 23 (.load none (T 22)),so 24 (.mv (C 0))])
 (.block 0
 (.loop
 (.seq (.reg [so 25 (.bin .lss (T 24) (T 23))])
 (.seq (.cond (T 25)
 .skip
 (.exit 0))
 (.seq (.block 1
 (.seq (.seq (.reg [sm 26 1,sm 27 7,so 28 (.bin .sub (T 26) (T 27)),so 29 (.bin .gtr (T 28) (C 32768)),sm 30 29,sg 31 (.mv (T 4)) 30 false,sg 32 (.mv (T 6)) 30 false,sg 33 (.bin .eql (T 31) (T 32)) 30 false,so 34 (.pick (T 30) (.const (.bool true)) (T 33))])
 (.cond (T 34)
 (.exit 0)
 .skip))
 (.seq (.seq (.reg [sm 35 0,sm 36 7,sm 37 1,sm 38 6,so 39 (.call true Zey [(T 35),(T 36),(T 37),(T 38)]),sm 8 39])
 (.seq (.reg [sm 40 8,sm 41 4,so 42 (.bin .gtr (T 40) (T 41))])
 (.cond (T 42)
 (.reg [sm 43 8,sm 44 1,sm 45 7,so 46 (.bin .sub (T 44) (T 45)),sm 4 43,sm 5 46])
 .skip)))
 (.reg [sm 47 0,so 48 (.nilc (T 47)),so 49 (.faddr 2 (T 48)),so 50 (.load none (T 49)),sm 51 7,sm 52 0,so 53 (.nilc (T 52)),so 54 (.faddr 2 (T 53)),so 55 (.load none (T 54)),so 56 (.len false (T 55)),so 57 (.bin .rem (T 51) (T 56)),so 58 (.iaddr none (T 50) (T 57)),so 59 (.load none (T 58)),sm 7 59]))))
 (.reg [so 60 (.bin .add (T 24) (C 1)),sm 24 60])))))))
 (.seq (.reg [sm 61 4,sm 62 5,sm 4 61,sm 5 62])
 .ret)))))
theorem ZhU:Zam Tryz.prog 63 (Tryz.f78.body.getD .skip)=Zd1:=by kernel_rfl
theorem ZhV:Zaf Tryz.prog Tryz.f78=some [.tmp 4,.tmp 5]:=by kernel_rfl
def ZfJ:SCode :=
 (.seq (.reg [sm 9 1,so 10 (.bin .sub (T 9) (C 32768)),sm 4 10])
 (.seq (.seq (.reg [sm 12 0,sm 13 4,so 14 (.call true ZbY [(T 12),(T 13)]),sm 11 14,so 15 (.ext (T 11) 0),so 16 (.ext (T 11) 1),so 5 (.alloc [(.int .u8 (0)),(.int .u8 (0)),(.int .u8 (0))]),sn (.store (some 3) (T 5) (T 15)),sm 6 16])
 (.seq (.reg [sm 17 6,sm 18 17,sg 19 (.mv (T 0)) 18 true,sg 20 (.nilc (T 19)) 18 true,sg 21 (.faddr 1 (T 20)) 18 true,sg 22 (.load none (T 21)) 18 true,sg 23 (.load (some 3) (T 5)) 18 true,sg 24 (.mget false (.agg #[(.int .u8 (0)),(.int .u8 (0)),(.int .u8 (0))]) (.int .i64 (0)) (T 22) (T 23)) 18 true,sg 25 (.mv (T 4)) 18 true,sg 26 (.bin .eql (T 24) (T 25)) 18 true,so 27 (.pick (T 18) (T 26) (.const (.bool false)))])
 (.cond (T 27)
 (.reg [sm 28 0,so 29 (.nilc (T 28)),so 30 (.faddr 1 (T 29)),so 31 (.load none (T 30)),so 32 (.load (some 3) (T 5)),sn (.mdel (.agg #[(.int .u8 (0)),(.int .u8 (0)),(.int .u8 (0))]) (T 31) (T 32))])
 .skip)))
 (.seq (.reg [sm 34 0,sm 35 1,so 36 (.call true ZbY [(T 34),(T 35)]),sm 33 36,so 37 (.ext (T 33) 0),so 38 (.ext (T 33) 1),so 7 (.alloc [(.int .u8 (0)),(.int .u8 (0)),(.int .u8 (0))]),sn (.store (some 3) (T 7) (T 37)),sm 8 38])
 (.seq (.reg [sm 39 8])
 (.cond (T 39)
 (.seq (.reg3 [sm 40 0,so 41 (.nilc (T 40)),so 42 (.faddr 2 (T 41)),so 43 (.load none (T 42)),sm 44 1,sm 45 0,so 46 (.nilc (T 45)),so 47 (.faddr 2 (T 46)),so 48 (.load none (T 47)),so 49 (.len false (T 48)),so 50 (.bin .rem (T 44) (T 49)),sm 51 0,sm 52 1,so 53 (.call true Zcb [(T 51),(T 52)])]
 [(none,(T 42),43),(none,(T 47),48)]
 [so 54 (.iaddr none (T 43) (T 50)),sn (.store none (T 54) (T 53))])
 (.reg [sm 55 0,so 56 (.nilc (T 55)),so 57 (.faddr 1 (T 56)),so 58 (.load none (T 57)),so 59 (.load (some 3) (T 7)),sm 60 1,sn (.mset (.agg #[(.int .u8 (0)),(.int .u8 (0)),(.int .u8 (0))]) (T 58) (T 59) (T 60))]))
 .skip)))))
theorem Zks:Zam Tryz.prog 61 (Tryz.f79.body.getD .skip)=ZfJ:=by kernel_rfl
theorem Zkt:Zaf Tryz.prog Tryz.f79=some []:=by kernel_rfl
def Zg7:SCode :=
 (.seq (.reg [so 4 (.alloc [(.slice none 0 0),(.slice none 0 0)])])
 (.seq (.reg [sm 8 0,sm 9 1,so 10 (.call true ZkB [(T 8),(T 9)]),sm 7 10,so 11 (.ext (T 7) 0),so 12 (.ext (T 7) 1),sm 5 11,sm 6 12])
 (.seq (.reg [sm 13 5,so 14 (.call true ZdG [(T 13)]),sn (.store (some 2) (T 4) (T 14))])
 .ret)))
theorem ZlR:Zam Tryz.prog 15 (Tryz.f80.body.getD .skip)=Zg7:=by kernel_rfl
theorem ZlS:Zaf Tryz.prog Tryz.f80=some [.cell 4 (some 2)]:=by kernel_rfl
def ZlT:SCode :=
 (.seq (.reg [so 4 (.mv (.const (.slice none 0 0)))])
 (.seq (.reg [sm 6 0,so 7 (.len false (T 6)),sm 5 7])
 (.seq (.block 0
 (.loop
 (.seq (.seq (.reg [sm 8 5,sm 9 1,so 10 (.bin .gtr (T 8) (T 9)),sm 11 10,sg 12 (.mv (T 0)) 11 true,sg 13 (.mv (T 5)) 11 true,sg 14 (.bin .sub (T 13) (C 1)) 11 true,sg 15 (.iaddr none (T 12) (T 14)) 11 true,sg 16 (.load none (T 15)) 11 true,sg 17 (.bin .eql (T 16) (C 0)) 11 true,so 18 (.pick (T 11) (T 17) (.const (.bool false)))])
 (.cond (T 18)
 .skip
 (.exit 0)))
 (.block 1
 (.reg [sm 19 5,so 20 (.bin .sub (T 19) (C 1)),sm 5 20])))))
 (.seq (.reg [sm 21 0,sm 22 5,so 23 (.sl none (T 21) none (some (T 22))),sm 4 23])
 .ret))))
theorem Zq9:Zam Tryz.prog 24 (Tryz.f81.body.getD .skip)=ZlT:=by kernel_rfl
theorem Zra:Zaf Tryz.prog Tryz.f81=some [.tmp 4]:=by kernel_rfl
def ZhW:SCode :=
 (.seq (.reg [so 2 (.mv (.const (.slice none 0 0)))])
 (.seq (.reg [so 3 (.mv (.const (.slice none 0 0)))])
 (.seq (.seq (.reg [so 4 (.mv (C 0))])
 (.block 0
 (.loop
 (.seq (.seq (.reg [sm 7 4,sm 8 0,so 9 (.len false (T 8)),so 10 (.bin .lss (T 7) (T 9))])
 (.cond (T 10)
 .skip
 (.exit 0)))
 (.block 1
 (.seq (.reg [sm 12 0,sm 13 4,so 14 (.call true ZiH [(T 12),(T 13)]),sm 11 14,so 15 (.ext (T 11) 0),so 16 (.ext (T 11) 1),so 5 (.alloc [(.int .i64 (0)),(.int .i64 (0)),(.int .i64 (0))]),sn (.store (some 3) (T 5) (T 15)),sm 6 16])
 (.seq (.reg [sm 17 3,so 18 (.load (some 3) (T 5)),so 19 (.bslice (some 3) [(T 18)]),so 20 (.app (some 3) 24 (T 17) (T 19)),sm 3 20])
 (.reg [sm 21 4,sm 22 6,so 23 (.bin .add (T 21) (T 22)),sm 4 23]))))))))
 (.seq (.reg [sm 24 3,sm 2 24])
 .ret))))
theorem ZmR:Zam Tryz.prog 25 (Tryz.f82.body.getD .skip)=ZhW:=by kernel_rfl
theorem ZmS:Zaf Tryz.prog Tryz.f82=some [.tmp 2]:=by kernel_rfl
def ZfK:SCode :=
 (.seq (.reg [so 2 (.alloc [(.slice none 0 0),(.slice none 0 0)])])
 (.seq (.reg [so 6 (.mks none 8 [(.int .i64 (0))] (C 19) (C 19)),sm 3 6])
 (.seq (.seq (.reg [sm 7 0,so 8 (.len false (T 7)),so 9 (.mv (C 0))])
 (.block 0
 (.loop
 (.seq (.reg [so 10 (.bin .lss (T 9) (T 8))])
 (.seq (.cond (T 10)
 .skip
 (.exit 0))
 (.seq (.block 1
 (.seq (.reg [so 11 (.iaddr (some 3) (T 7) (T 9)),so 12 (.load (some 3) (T 11)),so 5 (.alloc [(.int .i64 (0)),(.int .i64 (0)),(.int .i64 (0))]),sn (.store (some 3) (T 5) (T 12))])
 (.reg [sm 13 3,so 14 (.faddr 0 (T 5)),so 15 (.load none (T 14)),so 16 (.iaddr none (T 13) (T 15)),so 17 (.load none (T 16)),so 18 (.bin .add (T 17) (C 1)),so 19 (.iaddr none (T 13) (T 15)),sn (.store none (T 19) (T 18))])))
 (.reg [so 20 (.bin .add (T 9) (C 1)),sm 9 20])))))))
 (.seq (.reg [sm 21 3,so 22 (.call true ZcE [(T 21),(C 7)]),sn (.store (some 2) (T 2) (T 22))])
 .ret))))
theorem Zku:Zam Tryz.prog 23 (Tryz.f83.body.getD .skip)=ZfK:=by kernel_rfl
theorem Zkv:Zaf Tryz.prog Tryz.f83=some [.cell 2 (some 2)]:=by kernel_rfl
def ZhX:SCode :=
 (.seq (.seq (.reg [sm 4 0,so 5 (.nilc (T 4)),so 6 (.faddr 1 (T 5)),so 7 (.load none (T 6)),so 8 (.bin .rem (T 7) (C 8)),so 9 (.bin .eql (T 8) (C 0))])
 (.cond (T 9)
 (.reg [sm 10 0,sm 11 0,so 12 (.nilc (T 11)),so 13 (.faddr 0 (T 12)),so 14 (.load none (T 13)),so 15 (.bslice none [(.const (.int .u8 (0)))]),so 16 (.app none 1 (T 14) (T 15)),so 17 (.nilc (T 10)),so 18 (.faddr 0 (T 17)),sn (.store none (T 18) (T 16))])
 .skip))
 (.seq (.reg [sm 19 0,so 20 (.nilc (T 19)),so 21 (.faddr 0 (T 20)),so 22 (.load none (T 21)),sm 23 0,so 24 (.nilc (T 23)),so 25 (.faddr 1 (T 24)),so 26 (.load none (T 25)),so 27 (.bin .quo (T 26) (C 8)),so 28 (.iaddr none (T 22) (T 27)),so 29 (.load none (T 28)),sm 30 1,sm 31 0,so 32 (.nilc (T 31)),so 33 (.faddr 1 (T 32)),so 34 (.load none (T 33)),so 35 (.bin .rem (T 34) (C 8)),so 36 (.bin .shl (T 30) (T 35)),so 37 (.ci .u8 (T 36)),so 38 (.bin .or (T 29) (T 37)),so 39 (.iaddr none (T 22) (T 27)),sn (.store none (T 39) (T 38))])
 (.reg [sm 40 0,so 41 (.nilc (T 40)),so 42 (.faddr 1 (T 41)),so 43 (.load none (T 42)),so 44 (.bin .add (T 43) (C 1)),so 45 (.nilc (T 40)),so 46 (.faddr 1 (T 45)),sn (.store none (T 46) (T 44))])))
theorem ZmT:Zam Tryz.prog 47 (Tryz.f113.body.getD .skip)=ZhX:=by kernel_rfl
theorem ZmU:Zaf Tryz.prog Tryz.f113=some []:=by kernel_rfl
def Zg8:SCode :=
 (.seq (.seq (.reg [sm 7 2,so 8 (.bin .lss (T 7) (C 0)),sm 9 8,sg 10 (.mv (T 2)) 9 false,sg 11 (.bin .gtr (T 10) (C 15)) 9 false,so 12 (.pick (T 9) (.const (.bool true)) (T 11))])
 (.cond (T 12)
 .ret
 .skip))
 (.seq (.reg [sm 13 2,so 14 (.mv (C 0))])
 (.block 0
 (.loop
 (.seq (.reg [so 15 (.bin .lss (T 14) (T 13))])
 (.seq (.cond (T 15)
 .skip
 (.exit 0))
 (.seq (.block 1
 (.seq (.reg [sm 16 14,sm 6 16])
 (.reg [sm 17 0,sm 18 1,sm 19 2,so 20 (.bin .sub (T 19) (C 1)),sm 21 6,so 22 (.bin .sub (T 20) (T 21)),so 23 (.bin .shr (T 18) (T 22)),so 24 (.bin .and (T 23) (C 1)),so 25 (.call true ZeS [(T 17),(T 24)])])))
 (.reg [so 26 (.bin .add (T 14) (C 1)),sm 14 26]))))))))
theorem ZlU:Zam Tryz.prog 27 (Tryz.f114.body.getD .skip)=Zg8:=by kernel_rfl
theorem ZlV:Zaf Tryz.prog Tryz.f114=some []:=by kernel_rfl
def Zg9:SCode :=
 (.seq (.reg [so 4 (.alloc [(.int .i64 (0)),(.int .i64 (0)),(.int .i64 (0))])])
 (.seq (.reg [sm 6 0,so 7 (.ci .u64 (T 6)),so 8 (.call true Zqj [(T 7)]),so 9 (.bin .sub (T 8) (C 1)),sm 10 1,so 11 (.bin .sub (T 9) (T 10)),so 12 (.mm true (C 0) [(T 11)]),sm 5 12])
 (.seq (.reg [sm 13 5,sm 14 1,so 15 (.bin .shl (T 13) (T 14)),sm 16 0,sm 17 5,so 18 (.bin .shr (T 16) (T 17)),so 19 (.bin .add (T 15) (T 18)),sm 20 0,sm 21 5,so 22 (.build [(.int .i64 (0)),(.int .i64 (0)),(.int .i64 (0))] [(0,1,(T 19)),(1,1,(T 20)),(2,1,(T 21))]),sn (.store (some 3) (T 4) (T 22))])
 .ret)))
theorem ZlW:Zam Tryz.prog 23 (Tryz.f115.body.getD .skip)=Zg9:=by kernel_rfl
theorem ZlX:Zaf Tryz.prog Tryz.f115=some [.cell 4 (some 3)]:=by kernel_rfl
def Znr:SCode :=
 (.seq (.reg [so 2 (.mv (.const (.slice none 0 0))),so 3 (.mv (C 0))])
 (.seq (.seq (.reg [sm 9 0,so 10 (.call true ZgX [(T 9)]),sm 4 10])
 (.seq (.reg [sm 11 4,so 12 (.bin .neq (T 11) (C 0))])
 (.cond (T 12)
 (.seq (.reg [sm 13 4,so 2 (.mv (.const (.slice none 0 0))),sm 3 13])
 .ret)
 .skip)))
 (.seq (.reg [sm 14 0,so 15 (.call true Zfk [(T 14)]),so 5 (.alloc (List.replicate 16 (.int .i64 (0)))),sn (.store (some 16) (T 5) (T 15))])
 (.seq (.reg [sm 16 0,so 17 (.len false (T 16)),so 18 (.mks none 8 [(.int .i64 (0))] (T 17) (T 17)),sm 6 18])
 (.seq (.seq (.reg [sm 19 0,so 20 (.len false (T 19)),so 21 (.mv (C 0))])
 (.block 0
 (.loop
 (.seq (.reg [so 22 (.bin .lss (T 21) (T 20))])
 (.seq (.cond (T 22)
 .skip
 (.exit 0))
 (.seq (.block 1
 (.seq (.reg [sm 23 21,so 24 (.iaddr none (T 19) (T 21)),so 25 (.load none (T 24)),sm 7 23,sm 8 25])
 (.seq (.reg [sm 26 8,so 27 (.bin .gtr (T 26) (C 0))])
 (.cond (T 27)
 (.seq (.reg [sm 28 6,sm 29 7,sm 30 8,so 31 (.iaddrA 16 none (T 5) (T 30)),so 32 (.load none (T 31)),so 33 (.iaddr none (T 28) (T 29)),sn (.store none (T 33) (T 32))])
 (.reg [sm 34 8,so 35 (.iaddrA 16 none (T 5) (T 34)),so 36 (.load none (T 35)),so 37 (.bin .add (T 36) (C 1)),so 38 (.iaddrA 16 none (T 5) (T 34)),sn (.store none (T 38) (T 37))]))
 .skip))))
 (.reg [so 39 (.bin .add (T 21) (C 1)),sm 21 39])))))))
 (.seq (.reg [sm 40 6,sm 2 40,so 3 (.mv (C 0))])
 .ret))))))
theorem Zsy:Zam Tryz.prog 41 (Tryz.f116.body.getD .skip)=Znr:=by kernel_rfl
theorem Zsz:Zaf Tryz.prog Tryz.f116=some [.tmp 2,.tmp 3]:=by kernel_rfl
def Zdz:SCode :=
 (.seq (.reg [so 4 (.mv (C 0))])
 (.seq (.seq (.reg [sm 10 0,sm 11 1,so 12 (.call true ZbY [(T 10),(T 11)]),sm 9 12,so 13 (.ext (T 9) 0),so 14 (.ext (T 9) 1),so 5 (.alloc [(.int .u8 (0)),(.int .u8 (0)),(.int .u8 (0))]),sn (.store (some 3) (T 5) (T 13)),sm 6 14])
 (.seq (.reg [sm 15 6])
 (.cond (T 15)
 (.seq (.reg [sm 17 0,so 18 (.nilc (T 17)),so 19 (.faddr 1 (T 18)),so 20 (.load none (T 19)),so 21 (.load (some 3) (T 5)),so 22 (.mget true (.agg #[(.int .u8 (0)),(.int .u8 (0)),(.int .u8 (0))]) (.int .i64 (0)) (T 20) (T 21)),sm 16 22,so 23 (.ext (T 16) 0),so 24 (.ext (T 16) 1),sm 7 23,sm 8 24])
 (.seq (.reg [sm 25 8])
 (.cond (T 25)
 (.seq (.reg [sm 26 7,sm 4 26])
 .ret)
 .skip)))
 .skip)))
 (.seq (.reg [so 4 (.mv (C (-32769)))])
 .ret)))
theorem Zhn:Zam Tryz.prog 27 (Tryz.f119.body.getD .skip)=Zdz:=by kernel_rfl
theorem Zho:Zaf Tryz.prog Tryz.f119=some [.tmp 4]:=by kernel_rfl
def ZeF:SCode :=
 (.seq (.reg [so 8 (.mv (C 0))])
 (.seq (.reg [so 9 (.mv (C 0))])
 (.seq (.block 0
 (.loop
 (.seq (.seq (.reg [sm 10 9,sm 11 3,so 12 (.bin .lss (T 10) (T 11)),sm 13 12,sg 14 (.mv (T 0)) 13 true,sg 15 (.nilc (T 14)) 13 true,sg 16 (.faddr 0 (T 15)) 13 true,sg 17 (.load none (T 16)) 13 true,sg 18 (.mv (T 1)) 13 true,sg 19 (.mv (T 9)) 13 true,sg 20 (.bin .add (T 18) (T 19)) 13 true,sg 21 (.iaddr none (T 17) (T 20)) 13 true,sg 22 (.load none (T 21)) 13 true,sg 23 (.mv (T 0)) 13 true,sg 24 (.nilc (T 23)) 13 true,sg 25 (.faddr 0 (T 24)) 13 true,sg 26 (.load none (T 25)) 13 true,sg 27 (.mv (T 2)) 13 true,sg 28 (.mv (T 9)) 13 true,sg 29 (.bin .add (T 27) (T 28)) 13 true,sg 30 (.iaddr none (T 26) (T 29)) 13 true,sg 31 (.load none (T 30)) 13 true,sg 32 (.bin .eql (T 22) (T 31)) 13 true,so 33 (.pick (T 13) (T 32) (.const (.bool false)))])
 (.cond (T 33)
 .skip
 (.exit 0)))
 (.block 1
 (.reg [sm 34 9,so 35 (.bin .add (T 34) (C 1)),sm 9 35])))))
 (.seq (.reg [sm 36 9,sm 8 36])
 .ret))))
theorem Zi3:Zam Tryz.prog 37 (Tryz.f120.body.getD .skip)=ZeF:=by kernel_rfl
theorem Zi4:Zaf Tryz.prog Tryz.f120=some [.tmp 8]:=by kernel_rfl
def ZeG:SCode :=
 (.seq (.reg [so 4 (.alloc [(.int .u8 (0)),(.int .u8 (0)),(.int .u8 (0))]),so 5 (.mv (.const (.bool false)))])
 (.seq (.reg [so 6 (.alloc [(.int .u8 (0)),(.int .u8 (0)),(.int .u8 (0))])])
 (.seq (.seq (.reg [sm 7 1,so 8 (.bin .lss (T 7) (C 0)),sm 9 8,sg 10 (.mv (T 0)) 9 false,sg 11 (.nilc (T 10)) 9 false,sg 12 (.faddr 0 (T 11)) 9 false,sg 13 (.load none (T 12)) 9 false,sg 14 (.len false (T 13)) 9 false,sg 15 (.mv (T 1)) 9 false,sg 16 (.bin .sub (T 14) (T 15)) 9 false,sg 17 (.bin .lss (T 16) (C 3)) 9 false,so 18 (.pick (T 9) (.const (.bool true)) (T 17))])
 (.cond (T 18)
 (.seq (.reg [so 19 (.load (some 3) (T 6)),sn (.store (some 3) (T 4) (T 19)),so 5 (.mv (.const (.bool false)))])
 .ret)
 .skip))
 (.seq (.reg [so 20 (.sla 3 none (T 6) none none),sm 21 0,so 22 (.nilc (T 21)),so 23 (.faddr 0 (T 22)),so 24 (.load none (T 23)),sm 25 1,so 26 (.sl none (T 24) (some (T 25)) none),so 27 (.copy (T 20) (T 26))])
 (.seq (.reg [so 28 (.load (some 3) (T 6)),sn (.store (some 3) (T 4) (T 28)),so 5 (.mv (.const (.bool true)))])
 .ret)))))
theorem Zi5:Zam Tryz.prog 29 (Tryz.f121.body.getD .skip)=ZeG:=by kernel_rfl
theorem Zi6:Zaf Tryz.prog Tryz.f121=some [.cell 4 (some 3),.tmp 5]:=by kernel_rfl
def ZkD:SCode :=
 (.seq (.reg [so 4 (.mv (.const (.slice none 0 0))),so 5 (.mv (C 0))])
 (.seq (.seq (.reg [sm 14 1,so 15 (.bin .lss (T 14) (C 1)),sm 16 15,sg 17 (.mv (T 1)) 16 false,sg 18 (.bin .gtr (T 17) (C 15)) 16 false,so 19 (.pick (T 16) (.const (.bool true)) (T 18))])
 (.cond (T 19)
 (.seq (.reg [so 4 (.mv (.const (.slice none 0 0))),so 5 (.mv (C 1))])
 .ret)
 .skip))
 (.seq (.seq (.reg [sm 20 0,so 21 (.len false (T 20)),so 22 (.bin .gtr (T 21) (C 320))])
 (.cond (T 22)
 (.seq (.reg [so 4 (.mv (.const (.slice none 0 0))),so 5 (.mv (C 4))])
 .ret)
 .skip))
 (.seq (.reg [so 6 (.mv (.const (.slice none 0 0)))])
 (.seq (.seq (.reg [sm 23 0,so 24 (.len false (T 23)),so 25 (.mv (C 0))])
 (.block 0
 (.loop
 (.seq (.reg [so 26 (.bin .lss (T 25) (T 24))])
 (.seq (.cond (T 26)
 .skip
 (.exit 0))
 (.seq (.block 1
 (.seq (.reg [sm 27 25,so 28 (.iaddr none (T 23) (T 25)),so 29 (.load none (T 28)),sm 7 27,sm 8 29])
 (.seq (.seq (.reg [sm 30 8,so 31 (.bin .lss (T 30) (C 0)),sm 32 31,sg 33 (.mv (T 8)) 32 false,sg 34 (.bin .gtr (T 33) (C 4294967296)) 32 false,so 35 (.pick (T 32) (.const (.bool true)) (T 34))])
 (.cond (T 35)
 (.seq (.reg [so 4 (.mv (.const (.slice none 0 0))),so 5 (.mv (C 1))])
 .ret)
 .skip))
 (.seq (.reg [sm 36 8,so 37 (.bin .gtr (T 36) (C 0))])
 (.cond (T 37)
 (.reg [sm 38 6,sm 39 8,sm 40 7,so 41 (.bslice none [(T 40)]),so 42 (.build [(.int .i64 (0)),(.slice none 0 0)] [(0,1,(T 39)),(1,1,(T 41))]),so 43 (.bslice (some 2) [(T 42)]),so 44 (.app (some 2) 32 (T 38) (T 43)),sm 6 44])
 .skip)))))
 (.reg [so 45 (.bin .add (T 25) (C 1)),sm 25 45])))))))
 (.seq (.seq (.reg [sm 46 6,so 47 (.len false (T 46)),sm 48 1,so 49 (.bin .shl (C 1) (T 48)),so 50 (.bin .gtr (T 47) (T 49))])
 (.cond (T 50)
 (.seq (.reg [so 4 (.mv (.const (.slice none 0 0))),so 5 (.mv (C 4))])
 .ret)
 .skip))
 (.seq (.reg [sm 51 0,so 52 (.len false (T 51)),so 53 (.mks none 8 [(.int .i64 (0))] (T 52) (T 52)),sm 9 53])
 (.seq (.seq (.reg [sm 54 6,sm 55 1,so 56 (.call true Zjh [(T 54),(T 55)]),so 57 (.len false (T 56)),so 58 (.mv (C 0))])
 (.block 2
 (.loop
 (.seq (.reg [so 59 (.bin .lss (T 58) (T 57))])
 (.seq (.cond (T 59)
 .skip
 (.exit 2))
 (.seq (.block 3
 (.seq (.reg [so 60 (.iaddr (some 2) (T 56) (T 58)),so 61 (.load (some 2) (T 60)),so 11 (.alloc [(.int .i64 (0)),(.slice none 0 0)]),sn (.store (some 2) (T 11) (T 61))])
 (.seq (.reg [so 62 (.faddr 1 (T 11)),so 63 (.load none (T 62)),so 64 (.len false (T 63)),so 65 (.mv (C 0))])
 (.block 4
 (.loop
 (.seq (.reg [so 66 (.bin .lss (T 65) (T 64))])
 (.seq (.cond (T 66)
 .skip
 (.exit 4))
 (.seq (.block 5
 (.seq (.reg [so 67 (.iaddr none (T 63) (T 65)),so 68 (.load none (T 67)),sm 13 68])
 (.reg [sm 69 9,sm 70 13,so 71 (.iaddr none (T 69) (T 70)),so 72 (.load none (T 71)),so 73 (.bin .add (T 72) (C 1)),so 74 (.iaddr none (T 69) (T 70)),sn (.store none (T 74) (T 73))])))
 (.reg [so 75 (.bin .add (T 65) (C 1)),sm 65 75])))))))))
 (.reg [so 76 (.bin .add (T 58) (C 1)),sm 58 76])))))))
 (.seq (.reg [sm 77 9,sm 4 77,so 5 (.mv (C 0))])
 .ret)))))))))
theorem ZpE:Zam Tryz.prog 78 (Tryz.f122.body.getD .skip)=ZkD:=by kernel_rfl
theorem ZpF:Zaf Tryz.prog Tryz.f122=some [.tmp 4,.tmp 5]:=by kernel_rfl
def ZiR:SCode :=
 (.seq (.reg [so 4 (.alloc [(.int .i64 (0)),(.int .i64 (0)),(.int .i64 (0))]),so 5 (.mv (C 0))])
 (.seq (.reg [so 6 (.mv (C 1))])
 (.seq (.block 0
 (.loop
 (.seq (.seq (.reg [sm 7 1,sm 8 6,so 9 (.bin .add (T 7) (T 8)),sm 10 0,so 11 (.len false (T 10)),so 12 (.bin .lss (T 9) (T 11)),sm 13 12,sg 14 (.mv (T 0)) 13 true,sg 15 (.mv (T 1)) 13 true,sg 16 (.mv (T 6)) 13 true,sg 17 (.bin .add (T 15) (T 16)) 13 true,sg 18 (.iaddr none (T 14) (T 17)) 13 true,sg 19 (.load none (T 18)) 13 true,sg 20 (.mv (T 0)) 13 true,sg 21 (.mv (T 1)) 13 true,sg 22 (.iaddr none (T 20) (T 21)) 13 true,sg 23 (.load none (T 22)) 13 true,sg 24 (.bin .eql (T 19) (T 23)) 13 true,so 25 (.pick (T 13) (T 24) (.const (.bool false)))])
 (.cond (T 25)
 .skip
 (.exit 0)))
 (.block 1
 (.reg [sm 26 6,so 27 (.bin .add (T 26) (C 1)),sm 6 27])))))
 (.seq (.block 2
 (.seq (.reg [sm 29 0,sm 30 1,so 31 (.iaddr none (T 29) (T 30)),so 32 (.load none (T 31)),so 33 (.bin .eql (T 32) (C 0)),sm 34 33,sg 35 (.mv (T 6)) 34 true,sg 36 (.bin .geq (T 35) (C 11)) 34 true,so 37 (.pick (T 34) (T 36) (.const (.bool false))),sm 28 37])
 (.cond (T 28)
 (.seq (.reg [sm 38 6,so 39 (.mm false (T 38) [(C 138)]),sm 6 39])
 (.seq (.reg [sm 40 6,so 41 (.bin .sub (T 40) (C 11)),so 42 (.build [(.int .i64 (0)),(.int .i64 (0)),(.int .i64 (0))] [(0,1,(C 18)),(1,1,(T 41)),(2,1,(C 7))]),sm 43 6,sn (.store (some 3) (T 4) (T 42)),sm 5 43])
 .ret))
 (.seq (.reg [sm 45 0,sm 46 1,so 47 (.iaddr none (T 45) (T 46)),so 48 (.load none (T 47)),so 49 (.bin .eql (T 48) (C 0)),sm 50 49,sg 51 (.mv (T 6)) 50 true,sg 52 (.bin .geq (T 51) (C 3)) 50 true,so 53 (.pick (T 50) (T 52) (.const (.bool false))),sm 44 53])
 (.cond (T 44)
 (.seq (.reg [sm 54 6,so 55 (.mm false (T 54) [(C 10)]),sm 6 55])
 (.seq (.reg [sm 56 6,so 57 (.bin .sub (T 56) (C 3)),so 58 (.build [(.int .i64 (0)),(.int .i64 (0)),(.int .i64 (0))] [(0,1,(C 17)),(1,1,(T 57)),(2,1,(C 3))]),sm 59 6,sn (.store (some 3) (T 4) (T 58)),sm 5 59])
 .ret))
 (.seq (.reg [sm 61 1,so 62 (.bin .gtr (T 61) (C 0)),sm 63 62,sg 64 (.mv (T 0)) 63 true,sg 65 (.mv (T 1)) 63 true,sg 66 (.iaddr none (T 64) (T 65)) 63 true,sg 67 (.load none (T 66)) 63 true,sg 68 (.mv (T 0)) 63 true,sg 69 (.mv (T 1)) 63 true,sg 70 (.bin .sub (T 69) (C 1)) 63 true,sg 71 (.iaddr none (T 68) (T 70)) 63 true,sg 72 (.load none (T 71)) 63 true,sg 73 (.bin .eql (T 67) (T 72)) 63 true,so 74 (.pick (T 63) (T 73) (.const (.bool false))),sm 75 74,sg 76 (.mv (T 6)) 75 true,sg 77 (.bin .geq (T 76) (C 3)) 75 true,so 78 (.pick (T 75) (T 77) (.const (.bool false))),sm 60 78])
 (.cond (T 60)
 (.seq (.reg [sm 79 6,so 80 (.mm false (T 79) [(C 6)]),sm 6 80])
 (.seq (.reg [sm 81 6,so 82 (.bin .sub (T 81) (C 3)),so 83 (.build [(.int .i64 (0)),(.int .i64 (0)),(.int .i64 (0))] [(0,1,(C 16)),(1,1,(T 82)),(2,1,(C 2))]),sm 84 6,sn (.store (some 3) (T 4) (T 83)),sm 5 84])
 .ret))
 .skip)))))))
 (.seq (.reg [sm 85 0,sm 86 1,so 87 (.iaddr none (T 85) (T 86)),so 88 (.load none (T 87)),so 89 (.build [(.int .i64 (0)),(.int .i64 (0)),(.int .i64 (0))] [(0,1,(T 88))]),sn (.store (some 3) (T 4) (T 89)),so 5 (.mv (C 1))])
 .ret)))))
theorem ZnQ:Zam Tryz.prog 90 (Tryz.f123.body.getD .skip)=ZiR:=by kernel_rfl
theorem ZnR:Zaf Tryz.prog Tryz.f123=some [.cell 4 (some 3),.tmp 5]:=by kernel_rfl
def Zqm:SCode :=
 (.seq (.reg [so 2 (.mv (C 0))])
 (.seq (.cond (.const (.bool false))
 (.seq (.reg [sm 3 0,so 4 (.ci .u32 (T 3)),so 5 (.call true Zsq [(T 4)]),sm 2 5])
 .ret)
 .skip)
 (.seq (.reg [sm 6 0,so 7 (.call true Znl [(T 6)]),sm 2 7])
 .ret)))
theorem ZxR:Zam Tryz.prog 8 (Tryz.f140.body.getD .skip)=Zqm:=by kernel_rfl
theorem ZxS:Zaf Tryz.prog Tryz.f140=some [.tmp 2]:=by kernel_rfl
def Zns:SCode :=
 (.seq (.reg [so 2 (.mv (C 0))])
 (.seq (.seq (.reg [sm 3 0,so 4 (.bin .geq (T 3) (.const (.int .u64 (4294967296))))])
 (.cond (T 4)
 (.seq (.reg [sm 5 0,so 6 (.bin .shr (T 5) (.const (.int .u64 (32)))),sm 0 6])
 (.reg [so 2 (.mv (C 32))]))
 .skip))
 (.seq (.seq (.reg [sm 7 0,so 8 (.bin .geq (T 7) (.const (.int .u64 (65536))))])
 (.cond (T 8)
 (.seq (.reg [sm 9 0,so 10 (.bin .shr (T 9) (.const (.int .u64 (16)))),sm 0 10])
 (.reg [sm 11 2,so 12 (.bin .add (T 11) (C 16)),sm 2 12]))
 .skip))
 (.seq (.seq (.reg [sm 13 0,so 14 (.bin .geq (T 13) (.const (.int .u64 (256))))])
 (.cond (T 14)
 (.seq (.reg [sm 15 0,so 16 (.bin .shr (T 15) (.const (.int .u64 (8)))),sm 0 16])
 (.reg [sm 17 2,so 18 (.bin .add (T 17) (C 8)),sm 2 18]))
 .skip))
 (.seq (.reg [sm 19 2,sm 20 0,so 21 (.ci .u8 (T 20)),so 22 (.idxS (.const (.string ⟨#[0,1,2,2,3,3,3,3,4,4,4,4,4,4,4,4,5,5,5,5,5,5,5,5,5,5,5,5,5,5,5,5,6,6,6,6,6,6,6,6,6,6,6,6,6,6,6,6,6,6,6,6,6,6,6,6,6,6,6,6,6,6,6,6,7,7,7,7,7,7,7,7,7,7,7,7,7,7,7,7,7,7,7,7,7,7,7,7,7,7,7,7,7,7,7,7,7,7,7,7,7,7,7,7,7,7,7,7,7,7,7,7,7,7,7,7,7,7,7,7,7,7,7,7,7,7,7,7,8,8,8,8,8,8,8,8,8,8,8,8,8,8,8,8,8,8,8,8,8,8,8,8,8,8,8,8,8,8,8,8,8,8,8,8,8,8,8,8,8,8,8,8,8,8,8,8,8,8,8,8,8,8,8,8,8,8,8,8,8,8,8,8,8,8,8,8,8,8,8,8,8,8,8,8,8,8,8,8,8,8,8,8,8,8,8,8,8,8,8,8,8,8,8,8,8,8,8,8,8,8,8,8,8,8,8,8,8,8,8,8,8,8,8,8,8,8,8,8,8,8,8,8,8,8,8,8]⟩)) (T 21)),so 23 (.ci .i64 (T 22)),so 24 (.bin .add (T 19) (T 23)),sm 2 24])
 .ret)))))
theorem ZsA:Zam Tryz.prog 25 (Tryz.f146.body.getD .skip)=Zns:=by kernel_rfl
theorem ZsB:Zaf Tryz.prog Tryz.f146=some [.tmp 2]:=by kernel_rfl
def Zjq:SCode :=
 (.seq (.reg [so 4 (.mv (.const (.slice none 0 0)))])
 (.seq (.seq (.reg [sm 6 0,so 7 (.len false (T 6)),so 8 (.bin .lss (T 7) (C 2))])
 (.cond (T 8)
 (.seq (.reg [sm 9 0,sm 4 9])
 .ret)
 .skip))
 (.seq (.reg [sm 10 0,so 11 (.call true ZaG [(T 10),(.func Zby)])])
 (.seq (.reg [sm 12 0,sm 5 12])
 (.seq (.seq (.reg [sm 13 1,so 14 (.bin .sub (T 13) (C 1)),so 15 (.mv (C 0))])
 (.block 0
 (.loop
 (.seq (.reg [so 16 (.bin .lss (T 15) (T 14))])
 (.seq (.cond (T 16)
 .skip
 (.exit 0))
 (.seq (.block 1
 (.seq (.reg [sm 17 0,sm 18 5,so 19 (.call true Znn [(T 18)]),so 20 (.bslice none [(T 17),(T 19)]),so 21 (.call true ZbV [(T 20)]),sm 5 21])
 (.reg [sm 22 5,so 23 (.call true ZaG [(T 22),(.func Zby)])])))
 (.reg [so 24 (.bin .add (T 15) (C 1)),sm 15 24])))))))
 (.seq (.reg [sm 25 5,sm 26 0,so 27 (.len false (T 26)),so 28 (.bin .mul (C 2) (T 27)),so 29 (.bin .sub (T 28) (C 2)),so 30 (.sl (some 2) (T 25) none (some (T 29))),sm 4 30])
 .ret))))))
theorem ZoL:Zam Tryz.prog 31 (Tryz.f143.body.getD .skip)=Zjq:=by kernel_rfl
theorem ZoM:Zaf Tryz.prog Tryz.f143=some [.tmp 4]:=by kernel_rfl
def Zbr:SCode :=
 (.reg [sm 4 0,sm 5 0,so 6 (.len false (T 5)),sm 7 1,so 8 (.call true Zce [(T 4),(T 6),(T 7)])])
theorem Zcr:Zam Tryz.prog 9 (Tryz.f147.body.getD .skip)=Zbr:=by kernel_rfl
theorem Zcs:Zaf Tryz.prog Tryz.f147=some []:=by kernel_rfl
def ZkE:SCode :=
 (.seq (.reg [so 2 (.box (T 0)),so 3 (.box (T 1)),so 4 (.mv (C 0))])
 (.seq (.reg [so 5 (.faddr 0 (T 2)),so 6 (.load none (T 5)),so 7 (.faddr 0 (T 3)),so 8 (.load none (T 7)),so 9 (.call true ZiG [(T 6),(T 8)]),sm 4 9])
 .ret))
theorem ZpG:Zam Tryz.prog 10 (Tryz.f148.body.getD .skip)=ZkE:=by kernel_rfl
theorem ZpH:Zaf Tryz.prog Tryz.f148=some [.tmp 4]:=by kernel_rfl
def ZbW:SCode :=
 (.seq (.reg [so 2 (.mv (.const (.slice none 0 0)))])
 (.seq (.reg [so 3 (.mv (C 0))])
 (.seq (.seq (.reg [sm 9 0,so 10 (.len false (T 9)),so 11 (.mv (C 0))])
 (.block 0
 (.loop
 (.seq (.reg [so 12 (.bin .lss (T 11) (T 10))])
 (.seq (.cond (T 12)
 .skip
 (.exit 0))
 (.seq (.block 1
 (.seq (.reg [so 13 (.iaddr none (T 9) (T 11)),so 14 (.load none (T 13)),sm 5 14])
 (.seq (.reg [sm 15 3,sm 16 5,so 17 (.len false (T 16)),so 18 (.bin .add (T 15) (T 17)),sm 3 18])
 (.seq (.reg [sm 19 3,so 20 (.bin .lss (T 19) (C 0))])
 (.cond (T 20)
 (.reg [so 21 (.no),sn (.no)])
 .skip)))))
 (.reg [so 22 (.bin .add (T 11) (C 1)),sm 11 22])))))))
 (.seq (.reg [sm 23 3,so 24 (.call true Zb7 [(.const (.slice none 0 0)),(T 23)]),sm 6 24])
 (.seq (.seq (.reg [sm 25 0,so 26 (.len false (T 25)),so 27 (.mv (C 0))])
 (.block 2
 (.loop
 (.seq (.reg [so 28 (.bin .lss (T 27) (T 26))])
 (.seq (.cond (T 28)
 .skip
 (.exit 2))
 (.seq (.block 3
 (.seq (.reg [so 29 (.iaddr none (T 25) (T 27)),so 30 (.load none (T 29)),sm 8 30])
 (.reg [sm 31 6,sm 32 8,so 33 (.app (some 2) 32 (T 31) (T 32)),sm 6 33])))
 (.reg [so 34 (.bin .add (T 27) (C 1)),sm 27 34])))))))
 (.seq (.reg [sm 35 6,sm 2 35])
 .ret))))))
theorem ZdP:Zam Tryz.prog 36 (Tryz.f149.body.getD .skip)=ZbW:=by kernel_rfl
theorem ZdQ:Zaf Tryz.prog Tryz.f149=some [.tmp 2]:=by kernel_rfl
def Znt:SCode :=
 (.seq (.reg [so 2 (.mv (.const (.slice none 0 0)))])
 (.seq (.reg [so 3 (.mv (.const (.slice none 0 0)))])
 (.seq (.seq (.reg [so 4 (.mv (C 1))])
 (.block 0
 (.loop
 (.seq (.seq (.reg [sm 7 4,sm 8 0,so 9 (.len false (T 8)),so 10 (.bin .lss (T 7) (T 9))])
 (.cond (T 10)
 .skip
 (.exit 0)))
 (.seq (.block 1
 (.seq (.reg [sm 13 0,sm 14 4,so 15 (.bin .sub (T 14) (C 1)),so 16 (.iaddr (some 2) (T 13) (T 15)),so 17 (.load (some 2) (T 16)),sm 18 0,sm 19 4,so 20 (.iaddr (some 2) (T 18) (T 19)),so 21 (.load (some 2) (T 20)),so 5 (.alloc [(.int .i64 (0)),(.slice none 0 0)]),sn (.store (some 2) (T 5) (T 17)),so 6 (.alloc [(.int .i64 (0)),(.slice none 0 0)]),sn (.store (some 2) (T 6) (T 21))])
 (.reg [sm 22 3,so 23 (.faddr 0 (T 5)),so 24 (.load none (T 23)),so 25 (.faddr 0 (T 6)),so 26 (.load none (T 25)),so 27 (.bin .add (T 24) (T 26)),so 28 (.faddr 1 (T 5)),so 29 (.load none (T 28)),so 30 (.faddr 1 (T 6)),so 31 (.load none (T 30)),so 32 (.bslice none [(T 29),(T 31)]),so 33 (.call false Zbf [(T 32)]),so 34 (.build [(.int .i64 (0)),(.slice none 0 0)] [(0,1,(T 27)),(1,1,(T 33))]),so 35 (.bslice (some 2) [(T 34)]),so 36 (.app (some 2) 32 (T 22) (T 35)),sm 3 36])))
 (.reg [sm 11 4,so 12 (.bin .add (T 11) (C 2)),sm 4 12]))))))
 (.seq (.reg [sm 37 3,sm 2 37])
 .ret))))
theorem ZsC:Zam Tryz.prog 38 (Tryz.f150.body.getD .skip)=Znt:=by kernel_rfl
theorem ZsD:Zaf Tryz.prog Tryz.f150=some [.tmp 2]:=by kernel_rfl
def Zcf:SCode :=
 (.seq (.reg [so 6 (.mv (C 20))])
 (.seq (.reg [sm 10 6,so 7 (.mv (C 0)),sm 8 10])
 (.seq (.block 0
 (.loop
 (.seq (.seq (.reg [sm 11 8,sm 12 1,so 13 (.bin .leq (T 11) (T 12))])
 (.cond (T 13)
 .skip
 (.exit 0)))
 (.block 1
 (.seq (.reg [sm 14 0,sm 15 7,sm 16 8,sm 17 2,so 18 (.call true ZaU [(T 14),(T 15),(T 16),(T 17)])])
 (.seq (.reg [sm 19 8,sm 7 19])
 (.reg [sm 20 8,sm 21 6,so 22 (.bin .add (T 20) (T 21)),sm 8 22])))))))
 (.seq (.reg [sm 23 0,sm 24 7,sm 25 1,sm 26 2,so 27 (.call true ZaU [(T 23),(T 24),(T 25),(T 26)])])
 (.block 2
 (.loop
 (.seq (.seq (.reg [sm 28 6,sm 29 1,so 30 (.bin .lss (T 28) (T 29))])
 (.cond (T 30)
 .skip
 (.exit 2)))
 (.block 3
 (.seq (.reg [sm 31 6,so 32 (.bin .mul (C 2) (T 31)),so 7 (.mv (C 0)),sm 8 32])
 (.seq (.block 4
 (.loop
 (.seq (.seq (.reg [sm 33 8,sm 34 1,so 35 (.bin .leq (T 33) (T 34))])
 (.cond (T 35)
 .skip
 (.exit 4)))
 (.block 5
 (.seq (.reg [sm 36 0,sm 37 7,sm 38 7,sm 39 6,so 40 (.bin .add (T 38) (T 39)),sm 41 8,sm 42 2,so 43 (.call true Zau [(T 36),(T 37),(T 40),(T 41),(T 42)])])
 (.seq (.reg [sm 44 8,sm 7 44])
 (.reg [sm 45 8,sm 46 6,so 47 (.bin .mul (C 2) (T 46)),so 48 (.bin .add (T 45) (T 47)),sm 8 48])))))))
 (.seq (.seq (.reg [sm 49 7,sm 50 6,so 51 (.bin .add (T 49) (T 50)),sm 9 51])
 (.seq (.reg [sm 52 9,sm 53 1,so 54 (.bin .lss (T 52) (T 53))])
 (.cond (T 54)
 (.reg [sm 55 0,sm 56 7,sm 57 9,sm 58 1,sm 59 2,so 60 (.call true Zau [(T 55),(T 56),(T 57),(T 58),(T 59)])])
 .skip)))
 (.reg [sm 61 6,so 62 (.bin .mul (T 61) (C 2)),sm 6 62]))))))))))))
theorem Zet:Zam Tryz.prog 63 (Tryz.f151.body.getD .skip)=Zcf:=by kernel_rfl
theorem Zeu:Zaf Tryz.prog Tryz.f151=some []:=by kernel_rfl
def ZiS:SCode :=
 (.seq (.reg [so 4 (.mv (C 0))])
 (.seq (.reg [sm 7 0,so 8 (.call true Zhg [(T 7)]),sm 5 8])
 (.seq (.reg [sm 9 1,so 10 (.call true Zhg [(T 9)]),sm 6 10])
 (.seq (.seq (.reg [sm 11 5])
 (.cond (T 11)
 (.seq (.seq (.reg [sm 12 6])
 (.cond (T 12)
 (.seq (.reg [so 4 (.mv (C 0))])
 .ret)
 .skip))
 (.seq (.reg [so 4 (.mv (C (-1)))])
 .ret))
 .skip))
 (.seq (.seq (.reg [sm 13 6])
 (.cond (T 13)
 (.seq (.reg [so 4 (.mv (C 1))])
 .ret)
 .skip))
 (.seq (.seq (.reg [sm 14 0,sm 15 1,so 16 (.bin .lss (T 14) (T 15))])
 (.cond (T 16)
 (.seq (.reg [so 4 (.mv (C (-1)))])
 .ret)
 .skip))
 (.seq (.seq (.reg [sm 17 0,sm 18 1,so 19 (.bin .gtr (T 17) (T 18))])
 (.cond (T 19)
 (.seq (.reg [so 4 (.mv (C 1))])
 .ret)
 .skip))
 (.seq (.reg [so 4 (.mv (C 0))])
 .ret))))))))
theorem ZnS:Zam Tryz.prog 20 (Tryz.f152.body.getD .skip)=ZiS:=by kernel_rfl
theorem ZnT:Zaf Tryz.prog Tryz.f152=some [.tmp 4]:=by kernel_rfl
def Zb8:SCode :=
 (.seq (.reg [so 4 (.mv (.const (.slice none 0 0)))])
 (.seq (.seq (.reg [sm 5 1,so 6 (.bin .lss (T 5) (C 0))])
 (.cond (T 6)
 (.reg [so 7 (.no),sn (.no)])
 .skip))
 (.seq (.seq (.reg [sm 8 1,sm 9 0,so 10 (.capn (T 9)),sm 11 0,so 12 (.len false (T 11)),so 13 (.bin .sub (T 10) (T 12)),so 14 (.bin .sub (T 8) (T 13)),sm 1 14])
 (.seq (.reg [sm 15 1,so 16 (.bin .gtr (T 15) (C 0))])
 (.cond (T 16)
 (.reg [sm 17 0,sm 18 0,so 19 (.capn (T 18)),so 20 (.sl (some 2) (T 17) none (some (T 19))),sm 21 1,so 22 (.appz (some 2) 32 [(.int .i64 (0)),(.slice none 0 0)] (T 20) (T 21)),sm 23 0,so 24 (.len false (T 23)),so 25 (.sl (some 2) (T 22) none (some (T 24))),sm 0 25])
 .skip)))
 (.seq (.reg [sm 26 0,sm 4 26])
 .ret))))
theorem Zei:Zam Tryz.prog 27 (Tryz.f153.body.getD .skip)=Zb8:=by kernel_rfl
theorem Zej:Zaf Tryz.prog Tryz.f153=some [.tmp 4]:=by kernel_rfl
def ZbC:SCode :=
 (.seq (.reg [sm 10 1,so 11 (.bin .add (T 10) (C 1)),sm 8 11])
 (.block 0
 (.loop
 (.seq (.seq (.reg [sm 12 8,sm 13 2,so 14 (.bin .lss (T 12) (T 13))])
 (.cond (T 14)
 .skip
 (.exit 0)))
 (.seq (.block 1
 (.seq (.reg [sm 17 8,sm 9 17])
 (.block 2
 (.loop
 (.seq (.seq (.reg [sm 18 9,sm 19 1,so 20 (.bin .gtr (T 18) (T 19)),sm 21 20,sg 22 (.mv (T 3)) 21 true,sg 23 (.mv (T 0)) 21 true,sg 24 (.mv (T 9)) 21 true,sg 25 (.iaddr (some 2) (T 23) (T 24)) 21 true,sg 26 (.load (some 2) (T 25)) 21 true,sg 27 (.mv (T 0)) 21 true,sg 28 (.mv (T 9)) 21 true,sg 29 (.bin .sub (T 28) (C 1)) 21 true,sg 30 (.iaddr (some 2) (T 27) (T 29)) 21 true,sg 31 (.load (some 2) (T 30)) 21 true,sg 32 (.callv true (T 22) [(T 26),(T 31)]) 21 true,sg 33 (.bin .lss (T 32) (C 0)) 21 true,so 34 (.pick (T 21) (T 33) (.const (.bool false)))])
 (.cond (T 34)
 .skip
 (.exit 2)))
 (.seq (.block 3
 (.reg [sm 37 0,sm 38 9,sm 39 0,sm 40 9,so 41 (.bin .sub (T 40) (C 1)),sm 42 0,sm 43 9,so 44 (.bin .sub (T 43) (C 1)),so 45 (.iaddr (some 2) (T 42) (T 44)),so 46 (.load (some 2) (T 45)),sm 47 0,sm 48 9,so 49 (.iaddr (some 2) (T 47) (T 48)),so 50 (.load (some 2) (T 49)),so 51 (.iaddr (some 2) (T 37) (T 38)),sn (.store (some 2) (T 51) (T 46)),so 52 (.iaddr (some 2) (T 39) (T 41)),sn (.store (some 2) (T 52) (T 50))]))
 (.reg [sm 35 9,so 36 (.bin .sub (T 35) (C 1)),sm 9 36])))))))
 (.reg [sm 15 8,so 16 (.bin .add (T 15) (C 1)),sm 8 16]))))))
theorem ZcX:Zam Tryz.prog 53 (Tryz.f154.body.getD .skip)=ZbC:=by kernel_rfl
theorem ZcY:Zaf Tryz.prog Tryz.f154=some []:=by kernel_rfl
def ZaJ:SCode :=
 (.seq (.seq (.reg [sm 25 2,sm 26 1,so 27 (.bin .sub (T 25) (T 26)),so 28 (.bin .eql (T 27) (C 1))])
 (.cond (T 28)
 (.seq (.reg [sm 29 2,sm 10 29])
 (.seq (.reg [sm 30 3,sm 11 30])
 (.seq (.block 0
 (.loop
 (.seq (.seq (.reg [sm 31 10,sm 32 11,so 33 (.bin .lss (T 31) (T 32))])
 (.cond (T 33)
 .skip
 (.exit 0)))
 (.block 1
 (.seq (.reg [sm 34 10,sm 35 11,so 36 (.bin .add (T 34) (T 35)),so 37 (.ci .u64 (T 36)),so 38 (.bin .shr (T 37) (.const (.int .u64 (1)))),so 39 (.ci .i64 (T 38)),sm 12 39])
 (.seq (.reg [sm 40 4,sm 41 0,sm 42 12,so 43 (.iaddr (some 2) (T 41) (T 42)),so 44 (.load (some 2) (T 43)),sm 45 0,sm 46 1,so 47 (.iaddr (some 2) (T 45) (T 46)),so 48 (.load (some 2) (T 47)),so 49 (.callv true (T 40) [(T 44),(T 48)]),so 50 (.bin .lss (T 49) (C 0))])
 (.cond (T 50)
 (.reg [sm 51 12,so 52 (.bin .add (T 51) (C 1)),sm 10 52])
 (.reg [sm 53 12,sm 11 53]))))))))
 (.seq (.seq (.reg [sm 54 1,sm 13 54])
 (.block 2
 (.loop
 (.seq (.seq (.reg [sm 55 13,sm 56 10,so 57 (.bin .sub (T 56) (C 1)),so 58 (.bin .lss (T 55) (T 57))])
 (.cond (T 58)
 .skip
 (.exit 2)))
 (.seq (.block 3
 (.reg [sm 61 0,sm 62 13,sm 63 0,sm 64 13,so 65 (.bin .add (T 64) (C 1)),sm 66 0,sm 67 13,so 68 (.bin .add (T 67) (C 1)),so 69 (.iaddr (some 2) (T 66) (T 68)),so 70 (.load (some 2) (T 69)),sm 71 0,sm 72 13,so 73 (.iaddr (some 2) (T 71) (T 72)),so 74 (.load (some 2) (T 73)),so 75 (.iaddr (some 2) (T 61) (T 62)),sn (.store (some 2) (T 75) (T 70)),so 76 (.iaddr (some 2) (T 63) (T 65)),sn (.store (some 2) (T 76) (T 74))]))
 (.reg [sm 59 13,so 60 (.bin .add (T 59) (C 1)),sm 13 60]))))))
 .ret))))
 .skip))
 (.seq (.seq (.reg [sm 77 3,sm 78 2,so 79 (.bin .sub (T 77) (T 78)),so 80 (.bin .eql (T 79) (C 1))])
 (.cond (T 80)
 (.seq (.reg [sm 81 1,sm 14 81])
 (.seq (.reg [sm 82 2,sm 15 82])
 (.seq (.block 4
 (.loop
 (.seq (.seq (.reg [sm 83 14,sm 84 15,so 85 (.bin .lss (T 83) (T 84))])
 (.cond (T 85)
 .skip
 (.exit 4)))
 (.block 5
 (.seq (.reg [sm 86 14,sm 87 15,so 88 (.bin .add (T 86) (T 87)),so 89 (.ci .u64 (T 88)),so 90 (.bin .shr (T 89) (.const (.int .u64 (1)))),so 91 (.ci .i64 (T 90)),sm 16 91])
 (.seq (.reg [sm 92 4,sm 93 0,sm 94 2,so 95 (.iaddr (some 2) (T 93) (T 94)),so 96 (.load (some 2) (T 95)),sm 97 0,sm 98 16,so 99 (.iaddr (some 2) (T 97) (T 98)),so 100 (.load (some 2) (T 99)),so 101 (.callv true (T 92) [(T 96),(T 100)]),so 102 (.bin .lss (T 101) (C 0)),so 103 (.un .not (T 102))])
 (.cond (T 103)
 (.reg [sm 104 16,so 105 (.bin .add (T 104) (C 1)),sm 14 105])
 (.reg [sm 106 16,sm 15 106]))))))))
 (.seq (.seq (.reg [sm 107 2,sm 17 107])
 (.block 6
 (.loop
 (.seq (.seq (.reg [sm 108 17,sm 109 14,so 110 (.bin .gtr (T 108) (T 109))])
 (.cond (T 110)
 .skip
 (.exit 6)))
 (.seq (.block 7
 (.reg [sm 113 0,sm 114 17,sm 115 0,sm 116 17,so 117 (.bin .sub (T 116) (C 1)),sm 118 0,sm 119 17,so 120 (.bin .sub (T 119) (C 1)),so 121 (.iaddr (some 2) (T 118) (T 120)),so 122 (.load (some 2) (T 121)),sm 123 0,sm 124 17,so 125 (.iaddr (some 2) (T 123) (T 124)),so 126 (.load (some 2) (T 125)),so 127 (.iaddr (some 2) (T 113) (T 114)),sn (.store (some 2) (T 127) (T 122)),so 128 (.iaddr (some 2) (T 115) (T 117)),sn (.store (some 2) (T 128) (T 126))]))
 (.reg [sm 111 17,so 112 (.bin .sub (T 111) (C 1)),sm 17 112]))))))
 .ret))))
 .skip))
 (.seq (.reg [sm 129 1,sm 130 3,so 131 (.bin .add (T 129) (T 130)),so 132 (.ci .u64 (T 131)),so 133 (.bin .shr (T 132) (.const (.int .u64 (1)))),so 134 (.ci .i64 (T 133)),sm 18 134])
 (.seq (.reg [sm 135 18,sm 136 2,so 137 (.bin .add (T 135) (T 136)),sm 19 137])
 (.seq (.reg [so 20 (.mv (C 0)),so 21 (.mv (C 0))])
 (.seq (.seq (.reg [sm 138 2,sm 139 18,so 140 (.bin .gtr (T 138) (T 139))])
 (.cond (T 140)
 (.seq (.reg [sm 141 19,sm 142 3,so 143 (.bin .sub (T 141) (T 142)),sm 20 143])
 (.reg [sm 144 18,sm 21 144]))
 (.seq (.reg [sm 145 1,sm 20 145])
 (.reg [sm 146 2,sm 21 146]))))
 (.seq (.reg [sm 147 19,so 148 (.bin .sub (T 147) (C 1)),sm 22 148])
 (.seq (.block 8
 (.loop
 (.seq (.seq (.reg [sm 149 20,sm 150 21,so 151 (.bin .lss (T 149) (T 150))])
 (.cond (T 151)
 .skip
 (.exit 8)))
 (.block 9
 (.seq (.reg [sm 152 20,sm 153 21,so 154 (.bin .add (T 152) (T 153)),so 155 (.ci .u64 (T 154)),so 156 (.bin .shr (T 155) (.const (.int .u64 (1)))),so 157 (.ci .i64 (T 156)),sm 23 157])
 (.seq (.reg [sm 158 4,sm 159 0,sm 160 22,sm 161 23,so 162 (.bin .sub (T 160) (T 161)),so 163 (.iaddr (some 2) (T 159) (T 162)),so 164 (.load (some 2) (T 163)),sm 165 0,sm 166 23,so 167 (.iaddr (some 2) (T 165) (T 166)),so 168 (.load (some 2) (T 167)),so 169 (.callv true (T 158) [(T 164),(T 168)]),so 170 (.bin .lss (T 169) (C 0)),so 171 (.un .not (T 170))])
 (.cond (T 171)
 (.reg [sm 172 23,so 173 (.bin .add (T 172) (C 1)),sm 20 173])
 (.reg [sm 174 23,sm 21 174]))))))))
 (.seq (.reg [sm 175 19,sm 176 20,so 177 (.bin .sub (T 175) (T 176)),sm 24 177])
 (.seq (.seq (.reg [sm 178 20,sm 179 2,so 180 (.bin .lss (T 178) (T 179)),sm 181 180,sg 182 (.mv (T 2)) 181 true,sg 183 (.mv (T 24)) 181 true,sg 184 (.bin .lss (T 182) (T 183)) 181 true,so 185 (.pick (T 181) (T 184) (.const (.bool false)))])
 (.cond (T 185)
 (.reg [sm 186 0,sm 187 20,sm 188 2,sm 189 24,sm 190 4,so 191 (.call true Zcd [(T 186),(T 187),(T 188),(T 189),(T 190)])])
 .skip))
 (.seq (.seq (.reg [sm 192 1,sm 193 20,so 194 (.bin .lss (T 192) (T 193)),sm 195 194,sg 196 (.mv (T 20)) 195 true,sg 197 (.mv (T 18)) 195 true,sg 198 (.bin .lss (T 196) (T 197)) 195 true,so 199 (.pick (T 195) (T 198) (.const (.bool false)))])
 (.cond (T 199)
 (.reg [sm 200 0,sm 201 1,sm 202 20,sm 203 18,sm 204 4,so 205 (.call true Zau [(T 200),(T 201),(T 202),(T 203),(T 204)])])
 .skip))
 (.seq (.reg [sm 206 18,sm 207 24,so 208 (.bin .lss (T 206) (T 207)),sm 209 208,sg 210 (.mv (T 24)) 209 true,sg 211 (.mv (T 3)) 209 true,sg 212 (.bin .lss (T 210) (T 211)) 209 true,so 213 (.pick (T 209) (T 212) (.const (.bool false)))])
 (.cond (T 213)
 (.reg [sm 214 0,sm 215 18,sm 216 24,sm 217 3,sm 218 4,so 219 (.call true Zau [(T 214),(T 215),(T 216),(T 217),(T 218)])])
 .skip)))))))))))))
theorem Zbk:Zam Tryz.prog 220 (Tryz.f155.body.getD .skip)=ZaJ:=by kernel_rfl
theorem Zbl:Zaf Tryz.prog Tryz.f155=some []:=by kernel_rfl
def ZkF:SCode :=
 (.seq (.reg [so 2 (.mv (.const (.bool false)))])
 (.seq (.reg [sm 3 0,sm 4 0,so 5 (.bin .neq (T 3) (T 4)),sm 2 5])
 .ret))
theorem ZpI:Zam Tryz.prog 6 (Tryz.f156.body.getD .skip)=ZkF:=by kernel_rfl
theorem ZpJ:Zaf Tryz.prog Tryz.f156=some [.tmp 2]:=by kernel_rfl
def Zcg:SCode :=
 (.seq (.reg [sm 12 2,sm 13 1,so 14 (.bin .sub (T 12) (T 13)),sm 10 14])
 (.seq (.reg [sm 15 3,sm 16 2,so 17 (.bin .sub (T 15) (T 16)),sm 11 17])
 (.seq (.block 0
 (.loop
 (.seq (.seq (.reg [sm 18 10,sm 19 11,so 20 (.bin .neq (T 18) (T 19))])
 (.cond (T 20)
 .skip
 (.exit 0)))
 (.block 1
 (.seq (.reg [sm 21 10,sm 22 11,so 23 (.bin .gtr (T 21) (T 22))])
 (.cond (T 23)
 (.seq (.reg [sm 24 0,sm 25 2,sm 26 10,so 27 (.bin .sub (T 25) (T 26)),sm 28 2,sm 29 11,sm 30 4,so 31 (.call true ZaH [(T 24),(T 27),(T 28),(T 29),(T 30)])])
 (.reg [sm 32 10,sm 33 11,so 34 (.bin .sub (T 32) (T 33)),sm 10 34]))
 (.seq (.reg [sm 35 0,sm 36 2,sm 37 10,so 38 (.bin .sub (T 36) (T 37)),sm 39 2,sm 40 11,so 41 (.bin .add (T 39) (T 40)),sm 42 10,so 43 (.bin .sub (T 41) (T 42)),sm 44 10,sm 45 4,so 46 (.call true ZaH [(T 35),(T 38),(T 43),(T 44),(T 45)])])
 (.reg [sm 47 11,sm 48 10,so 49 (.bin .sub (T 47) (T 48)),sm 11 49]))))))))
 (.reg [sm 50 0,sm 51 2,sm 52 10,so 53 (.bin .sub (T 51) (T 52)),sm 54 2,sm 55 10,sm 56 4,so 57 (.call true ZaH [(T 50),(T 53),(T 54),(T 55),(T 56)])]))))
theorem Zev:Zam Tryz.prog 58 (Tryz.f157.body.getD .skip)=Zcg:=by kernel_rfl
theorem Zew:Zaf Tryz.prog Tryz.f157=some []:=by kernel_rfl
def ZbX:SCode :=
 (.seq (.reg [so 10 (.mv (C 0))])
 (.block 0
 (.loop
 (.seq (.seq (.reg [sm 11 10,sm 12 3,so 13 (.bin .lss (T 11) (T 12))])
 (.cond (T 13)
 .skip
 (.exit 0)))
 (.seq (.block 1
 (.reg [sm 16 0,sm 17 1,sm 18 10,so 19 (.bin .add (T 17) (T 18)),sm 20 0,sm 21 2,sm 22 10,so 23 (.bin .add (T 21) (T 22)),sm 24 0,sm 25 2,sm 26 10,so 27 (.bin .add (T 25) (T 26)),so 28 (.iaddr (some 2) (T 24) (T 27)),so 29 (.load (some 2) (T 28)),sm 30 0,sm 31 1,sm 32 10,so 33 (.bin .add (T 31) (T 32)),so 34 (.iaddr (some 2) (T 30) (T 33)),so 35 (.load (some 2) (T 34)),so 36 (.iaddr (some 2) (T 16) (T 19)),sn (.store (some 2) (T 36) (T 29)),so 37 (.iaddr (some 2) (T 20) (T 23)),sn (.store (some 2) (T 37) (T 35))]))
 (.reg [sm 14 10,so 15 (.bin .add (T 14) (C 1)),sm 10 15]))))))
theorem ZdR:Zam Tryz.prog 38 (Tryz.f158.body.getD .skip)=ZbX:=by kernel_rfl
theorem ZdS:Zaf Tryz.prog Tryz.f158=some []:=by kernel_rfl
def Zdh:SCode :=
 (.seq (.reg [so 4 (.mv (.const (.bool false)))])
 (.seq (.seq (.reg [so 11 (.call true Zfv []),so 12 (.un .not (T 11))])
 (.cond (T 12)
 (.seq (.reg [so 4 (.mv (.const (.bool false)))])
 .ret)
 .skip))
 (.seq (.seq (.reg [sm 13 0,so 14 (.len false (T 13)),so 15 (.bin .gtr (T 14) (C 3000))])
 (.cond (T 15)
 (.seq (.reg [so 4 (.mv (.const (.bool true)))])
 .ret)
 .skip))
 (.seq (.reg [sm 17 0,sm 18 1,so 19 (.call true Zbe [(T 17),(T 18)]),sm 16 19,so 20 (.ext (T 16) 0),so 21 (.ext (T 16) 1),sm 5 20,sm 6 21])
 (.seq (.seq (.reg [sm 22 1,so 23 (.bin .lss (T 22) (C 0)),sm 24 23,sg 25 (.mv (T 1)) 24 false,sg 26 (.bin .gtr (T 25) (C 2)) 24 false,so 27 (.pick (T 24) (.const (.bool true)) (T 26))])
 (.cond (T 27)
 (.seq (.reg [sm 28 5,so 29 (.len false (T 28)),so 30 (.bin .eql (T 29) (C 0)),sm 31 30,sg 32 (.mv (T 6)) 31 true,sg 33 (.bin .eql (T 32) (C 1)) 31 true,so 34 (.pick (T 31) (T 33) (.const (.bool false))),sm 4 34])
 .ret)
 .skip))
 (.seq (.seq (.reg [sm 35 6,so 36 (.bin .neq (T 35) (C 0))])
 (.cond (T 36)
 (.seq (.reg [so 4 (.mv (.const (.bool false)))])
 .ret)
 .skip))
 (.seq (.reg [sm 38 5,sm 39 0,so 40 (.len false (T 39)),so 41 (.call true ZhE [(T 38),(T 40)]),sm 37 41,so 42 (.ext (T 37) 0),so 43 (.ext (T 37) 1),so 44 (.ext (T 37) 2),sm 7 42,sm 8 43,sm 9 44])
 (.seq (.reg [sm 45 5,sm 46 0,so 47 (.len false (T 46)),so 48 (.call true ZeA [(T 45),(T 47)]),so 10 (.alloc [(.slice none 0 0),(.int .i64 (0)),(.int .i64 (0))]),sn (.store (some 3) (T 10) (T 48))])
 (.seq (.reg [sm 49 9,so 50 (.bin .eql (T 49) (C 0)),sm 51 50,sg 52 (.mv (T 8)) 51 true,sg 53 (.mv (T 5)) 51 true,sg 54 (.len false (T 53)) 51 true,sg 55 (.bin .eql (T 52) (T 54)) 51 true,so 56 (.pick (T 51) (T 55) (.const (.bool false))),sm 57 56,sg 58 (.mv (T 7)) 57 true,sg 59 (.b2s (T 58)) 57 true,sg 60 (.mv (T 0)) 57 true,sg 61 (.b2s (T 60)) 57 true,sg 62 (.bin .eql (T 59) (T 61)) 57 true,so 63 (.pick (T 57) (T 62) (.const (.bool false))),sm 64 63,sg 65 (.faddr 2 (T 10)) 64 true,sg 66 (.load none (T 65)) 64 true,sg 67 (.bin .eql (T 66) (C 0)) 64 true,so 68 (.pick (T 64) (T 67) (.const (.bool false))),sm 69 68,sg 70 (.faddr 1 (T 10)) 69 true,sg 71 (.load none (T 70)) 69 true,sg 72 (.mv (T 5)) 69 true,sg 73 (.len false (T 72)) 69 true,sg 74 (.bin .eql (T 71) (T 73)) 69 true,so 75 (.pick (T 69) (T 74) (.const (.bool false))),sm 76 75,sg 77 (.faddr 0 (T 10)) 76 true,sg 78 (.load none (T 77)) 76 true,sg 79 (.b2s (T 78)) 76 true,sg 80 (.mv (T 0)) 76 true,sg 81 (.b2s (T 80)) 76 true,sg 82 (.bin .eql (T 79) (T 81)) 76 true,so 83 (.pick (T 76) (T 82) (.const (.bool false))),sm 4 83])
 .ret)))))))))
theorem ZgQ:Zam Tryz.prog 84 (Tryz.f3.body.getD .skip)=Zdh:=by kernel_rfl
theorem ZgR:Zaf Tryz.prog Tryz.f3=some [.tmp 4]:=by kernel_rfl
end Go.Proofs.YtfplkgciebjehabGreatDoor.Aw
namespace Go.Proofs.YtfplkgciebjehabGreatDoor.Aw
open Go
set_option linter.unusedSimpArgs false
set_option linter.unusedVariables false
theorem k0:AV.sc (.int .u32 0)=w32 0:=rfl
theorem k1:AV.sc (.int .u32 1)=w32 1:=rfl
end Go.Proofs.YtfplkgciebjehabGreatDoor.Aw
