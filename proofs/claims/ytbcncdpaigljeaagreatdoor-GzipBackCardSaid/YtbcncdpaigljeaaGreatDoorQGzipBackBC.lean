/- Parts of the proof of GzipBack. -/
import Derived.Test.YtbcncdpaigljeaaGreatDoorQGzipBackBB
import Derived.Test.YtbcncdpaigljeaaGreatDoorProg
import Derived.Lib.Bytealg
namespace Go.Proofs.YtbcncdpaigljeaaGreatDoor.Aw
open Go
set_option maxRecDepth 100000
set_option linter.unusedSimpArgs false
abbrev Zp9:Nat:=146
abbrev Zsk:Nat:=151
abbrev ZmX:Nat:=152
abbrev Zqa:Nat:=126
abbrev Zsl:Nat:=147
abbrev ZmY:Nat:=148
abbrev ZdK:Nat:=54
abbrev Zhc:Nat:=144
abbrev Zio:Nat:=158
abbrev ZgT:Nat:=162
abbrev Zli:Nat:=115
abbrev Zjv:Nat:=68
abbrev Zka:Nat:=143
abbrev Za5:Nat:=9
abbrev Zcx:Nat:=92
abbrev ZfO:Nat:=52
abbrev Ze7:Nat:=95
abbrev Zdk:Nat:=86
abbrev Zfp:Nat:=93
abbrev Zhd:Nat:=50
abbrev Ze8:Nat:=91
abbrev Zel:Nat:=128
abbrev ZbX:Nat:=127
abbrev Zdz:Nat:=90
abbrev ZbN:Nat:=129
abbrev Ze9:Nat:=48
abbrev ZfP:Nat:=89
abbrev ZbO:Nat:=46
abbrev ZdA:Nat:=23
abbrev Zem:Nat:=21
abbrev Zch:Nat:=47
abbrev ZdL:Nat:=20
abbrev ZbA:Nat:=45
abbrev Zbc:Nat:=82
abbrev ZeO:Nat:=53
abbrev Zcb:Nat:=85
abbrev ZbT:Nat:=84
abbrev Zci:Nat:=83
abbrev ZdM:Nat:=22
abbrev Zbg:Nat:=49
abbrev Zbh:Nat:=51
abbrev ZdN:Nat:=123
abbrev Zip:Nat:=131
abbrev Zhe:Nat:=94
abbrev ZmZ:Nat:=69
abbrev Ziq:Nat:=113
abbrev ZdO:Nat:=6
abbrev Zfa:Nat:=12
abbrev ZfQ:Nat:=18
abbrev ZfR:Nat:=13
abbrev ZdP:Nat:=16
abbrev Zox:Nat:=39
abbrev Zcy:Nat:=75
abbrev Zkp:Nat:=116
abbrev ZdQ:Nat:=73
abbrev Zi0:Nat:=119
abbrev Zb7:Nat:=43
abbrev Zgo:Nat:=117
abbrev Zgp:Nat:=76
abbrev Zcz:Nat:=114
abbrev ZdR:Nat:=118
abbrev ZcA:Nat:=74
abbrev Zkq:Nat:=37
abbrev Zgq:Nat:=132
abbrev Zi1:Nat:=124
abbrev ZfS:Nat:=138
abbrev Zkb:Nat:=130
abbrev Zir:Nat:=25
abbrev ZbY:Nat:=101
abbrev Zis:Nat:=19
abbrev Zdo:Nat:=98
abbrev Zit:Nat:=27
abbrev Zdp:Nat:=99
abbrev ZaV:Nat:=55
abbrev ZeC:Nat:=97
abbrev ZcB:Nat:=96
abbrev Zdl:Nat:=102
abbrev Zgr:Nat:=135
abbrev Zdq:Nat:=79
abbrev ZfT:Nat:=24
abbrev Zgs:Nat:=122
abbrev ZaC:Nat:=80
abbrev Zhf:Nat:=81
abbrev ZeD:Nat:=121
abbrev Zbp:Nat:=154
abbrev Zi2:Nat:=149
abbrev Ze2:Nat:=133
abbrev Zm0:Nat:=156
abbrev Zgt:Nat:=134
abbrev Zbk:Nat:=10
abbrev Zhg:Nat:=107
abbrev ZfU:Nat:=140
abbrev Zfb:Nat:=57
abbrev Zcc:Nat:=26
abbrev ZcK:Nat:=137
abbrev Zc9:Nat:=136
abbrev ZcX:Nat:=106
abbrev ZbQ:Nat:=103
abbrev ZaU:Nat:=139
abbrev ZbB:Nat:=100
abbrev Zen:Nat:=104
abbrev Zda:Nat:=56
abbrev ZbR:Nat:=58
abbrev Zdb:Nat:=105
abbrev ZcC:Nat:=59
abbrev ZdS:Nat:=38
abbrev ZbJ:Nat:=155
abbrev Za6:Nat:=87
abbrev ZeP:Nat:=70
abbrev ZbU:Nat:=159
abbrev ZfV:Nat:=125
abbrev Zaw:Nat:=88
abbrev ZaE:Nat:=153
abbrev ZaQ:Nat:=160
abbrev Zb1:Nat:=163
abbrev Zb2:Nat:=157
abbrev ZaF:Nat:=164
abbrev Zar:Nat:=161
abbrev ZfW:Nat:=36
abbrev ZdT:Nat:=67
theorem mix:Tryz.prog.follows .mixedOrders=true:=by kernel_rfl
def Zfc:SCode :=
 (.seq (.reg [so 0 (.mv (.const (.bool false)))])
 (.seq (.reg [so 6 (.bsl none [(.const (.int .u8 (97)))]),so 7 (.strz (T 6)),so 8 (.build [(.string ⟨#[]⟩),(.int .i64 (0)),(.slice none 0 0)] [(0,1,(.const (.string ⟨#[110]⟩))),(1,1,(C 1)),(2,1,(T 7))]),so 9 (.call true ZfR [(T 8),(C 0)]),sm 5 9,so 10 (.ext (T 5) 0),so 11 (.ext (T 5) 1),sm 1 10,sm 2 11])
 (.seq (.reg [sm 13 1,so 14 (.call true ZdP [(T 13),(C 10)]),sm 12 14,so 15 (.ext (T 12) 0),so 16 (.ext (T 12) 1),so 4 (.alloc [(.string ⟨#[]⟩),(.int .i64 (0)),(.int .i64 (0))]),sm 3 15,sn (.store (some 3) (T 4) (T 16))])
 (.seq (.reg [sm 17 2,so 18 (.bin .eql (T 17) (C 0)),sm 19 18,sg 20 (.load (some 3) (T 4)) 19 true,sg 21 (.build [(.string ⟨#[]⟩),(.int .i64 (0)),(.int .i64 (0))] []) 19 true,sg 22 (.aeq false (.agg #[(.string ⟨#[]⟩),(.int .i64 (0)),(.int .i64 (0))]) (T 20) (T 21)) 19 true,so 23 (.pick (T 19) (T 22) (.const (.bool false))),sm 24 23,sg 25 (.mv (T 1)) 24 true,sg 26 (.len false (T 25)) 24 true,sg 27 (.bin .eql (T 26) (C 26)) 24 true,so 28 (.pick (T 24) (T 27) (.const (.bool false))),sm 29 28,sg 30 (.mv (T 1)) 29 true,sg 31 (.sl none (T 30) none (some (C 12))) 29 true,sg 32 (.b2s (T 31)) 29 true,sg 33 (.bin .eql (T 32) (.const (.string ⟨#[31,139,8,8,1,0,0,0,0,3,110,0]⟩))) 29 true,so 34 (.pick (T 29) (T 33) (.const (.bool false))),sm 35 34,sg 36 (.mv (T 3)) 35 true,sg 37 (.len false (T 36)) 35 true,sg 38 (.bin .eql (T 37) (C 1)) 35 true,so 39 (.pick (T 35) (T 38) (.const (.bool false))),sm 40 39,sg 41 (.mv (T 3)) 40 true,sg 42 (.iaddr (some 3) (T 41) (C 0)) 40 true,sg 43 (.faddr 0 (T 42)) 40 true,sg 44 (.load none (T 43)) 40 true,sg 45 (.bin .eql (T 44) (.const (.string ⟨#[110]⟩))) 40 true,so 46 (.pick (T 40) (T 45) (.const (.bool false))),sm 47 46,sg 48 (.mv (T 3)) 47 true,sg 49 (.iaddr (some 3) (T 48) (C 0)) 47 true,sg 50 (.faddr 2 (T 49)) 47 true,sg 51 (.load none (T 50)) 47 true,sg 52 (.b2s (T 51)) 47 true,sg 53 (.bin .eql (T 52) (.const (.string ⟨#[97]⟩))) 47 true,so 54 (.pick (T 47) (T 53) (.const (.bool false))),sm 0 54])
 .ret))))
theorem ZjS:Zaj Tryz.prog 55 (Tryz.f12.body.getD .skip)=Zfc:=by kernel_rfl
theorem ZjT:Zaf Tryz.prog Tryz.f12=some [.tmp 0]:=by kernel_rfl
def Zkr:SCode :=
 (.seq (.reg [so 2 (.box (T 0)),so 4 (.mv (.const (.slice none 0 0))),so 5 (.mv (C 0))])
 (.seq (.seq (.reg [so 9 (.faddr 1 (T 2)),so 10 (.load none (T 9)),so 11 (.bin .lss (T 10) (C 0)),sm 12 11,sg 13 (.faddr 1 (T 2)) 12 false,sg 14 (.load none (T 13)) 12 false,sg 15 (.bin .gtr (T 14) (C 4294967295)) 12 false,so 16 (.pick (T 12) (.const (.bool true)) (T 15))])
 (.cond (T 16)
 (.seq (.reg [so 4 (.mv (.const (.slice none 0 0))),so 5 (.mv (C 1))])
 .ret)
 .skip))
 (.seq (.seq (.reg [so 17 (.faddr 0 (T 2)),so 18 (.load none (T 17)),so 19 (.len true (T 18)),so 20 (.bin .gtr (T 19) (C 200)),sm 21 20,sg 22 (.faddr 0 (T 2)) 21 false,sg 23 (.load none (T 22)) 21 false,sg 24 (.call true ZfW [(T 23),(.const (.int .u8 (0)))]) 21 false,sg 25 (.bin .geq (T 24) (C 0)) 21 false,so 26 (.pick (T 21) (.const (.bool true)) (T 25))])
 (.cond (T 26)
 (.seq (.reg [so 4 (.mv (.const (.slice none 0 0))),so 5 (.mv (C 10))])
 .ret)
 .skip))
 (.seq (.reg [so 28 (.faddr 2 (T 2)),so 29 (.load none (T 28)),sm 30 1,so 31 (.call true Za5 [(T 29),(T 30)]),sm 27 31,so 32 (.ext (T 27) 0),so 33 (.ext (T 27) 1),sm 6 32,sm 7 33])
 (.seq (.seq (.reg [sm 34 7,so 35 (.bin .neq (T 34) (C 0))])
 (.cond (T 35)
 (.seq (.reg [sm 36 7,so 4 (.mv (.const (.slice none 0 0))),sm 5 36])
 .ret)
 .skip))
 (.seq (.reg [so 37 (.faddr 2 (T 2)),so 38 (.load none (T 37)),so 39 (.call true Zkq [(T 38)]),so 8 (.alloc (List.replicate 8 (.int .u8 (0)))),sn (.store (some 8) (T 8) (T 39))])
 (.seq (.reg [so 40 (.load (some 3) (T 2)),so 41 (.call false Zox [(T 40)]),sm 42 6,so 43 (.sla 8 none (T 8) none none),so 44 (.bslice none [(T 41),(T 42),(T 43)]),so 45 (.call true ZdS [(T 44)]),sm 4 45,so 5 (.mv (C 0))])
 .ret)))))))
theorem Zoy:Zaj Tryz.prog 46 (Tryz.f13.body.getD .skip)=Zkr:=by kernel_rfl
theorem Zoz:Zaf Tryz.prog Tryz.f13=some [.tmp 4,.tmp 5]:=by kernel_rfl
def ZoA:SCode :=
 (.seq (.reg [so 1 (.box (T 0)),so 2 (.mv (.const (.slice none 0 0)))])
 (.seq (.reg [so 3 (.mv (.const (.int .u8 (0))))])
 (.seq (.seq (.reg [so 5 (.faddr 0 (T 1)),so 6 (.load none (T 5)),so 7 (.bin .neq (T 6) (.const (.string ⟨#[]⟩)))])
 (.cond (T 7)
 (.reg [so 3 (.mv (.const (.int .u8 (8))))])
 .skip))
 (.seq (.reg [sm 8 3,so 9 (.bsl none [(.const (.int .u8 (31))),(.const (.int .u8 (139))),(.const (.int .u8 (8))),(T 8)]),sm 4 9])
 (.seq (.reg [sm 10 4,so 11 (.faddr 1 (T 1)),so 12 (.load none (T 11)),so 13 (.ci .u64 (T 12)),so 14 (.call true Zjv [(T 13),(C 4)]),so 15 (.app none 1 (T 10) (T 14)),sm 4 15])
 (.seq (.reg [sm 16 4,so 17 (.bslice none [(.const (.int .u8 (0))),(.const (.int .u8 (3)))]),so 18 (.app none 1 (T 16) (T 17)),sm 4 18])
 (.seq (.seq (.reg [so 19 (.faddr 0 (T 1)),so 20 (.load none (T 19)),so 21 (.bin .neq (T 20) (.const (.string ⟨#[]⟩)))])
 (.cond (T 21)
 (.seq (.reg [sm 22 4,so 23 (.faddr 0 (T 1)),so 24 (.load none (T 23)),so 25 (.apps 1 (T 22) (T 24)),sm 4 25])
 (.reg [sm 26 4,so 27 (.bslice none [(.const (.int .u8 (0)))]),so 28 (.app none 1 (T 26) (T 27)),sm 4 28]))
 .skip))
 (.seq (.reg [sm 29 4,sm 2 29])
 .ret))))))))
theorem Zun:Zaj Tryz.prog 30 (Tryz.f39.body.getD .skip)=ZoA:=by kernel_rfl
theorem Zuo:Zaf Tryz.prog Tryz.f39=some [.tmp 2]:=by kernel_rfl
def ZoB:SCode :=
 (.seq (.reg [so 2 (.alloc (List.replicate 8 (.int .u8 (0))))])
 (.seq (.reg [so 3 (.alloc (List.replicate 8 (.int .u8 (0))))])
 (.seq (.reg [so 4 (.sla 8 none (T 3) none none),sm 5 0,so 6 (.call false ZmZ [(T 5)]),so 7 (.ci .u64 (T 6)),so 8 (.call false Zjv [(T 7),(C 4)]),so 9 (.copy (T 4) (T 8))])
 (.seq (.reg [so 10 (.sla 8 none (T 3) (some (C 4)) none),sm 11 0,so 12 (.len false (T 11)),so 13 (.ci .u64 (T 12)),so 14 (.call false Zjv [(T 13),(C 4)]),so 15 (.copy (T 10) (T 14))])
 (.seq (.reg [so 16 (.load (some 8) (T 3)),sn (.store (some 8) (T 2) (T 16))])
 .ret)))))
theorem Zup:Zaj Tryz.prog 17 (Tryz.f37.body.getD .skip)=ZoB:=by kernel_rfl
theorem Zuq:Zaf Tryz.prog Tryz.f37=some [.cell 2 (some 8)]:=by kernel_rfl
def Zfq:SCode :=
 (.seq (.reg [so 4 (.mv (.const (.slice none 0 0))),so 5 (.alloc [(.string ⟨#[]⟩),(.int .i64 (0)),(.int .i64 (0))])])
 (.seq (.seq (.reg [sm 11 1,so 12 (.bin .lss (T 11) (C 0)),sm 13 12,sg 14 (.mv (T 1)) 13 false,sg 15 (.bin .gtr (T 14) (C 16777216)) 13 false,so 16 (.pick (T 13) (.const (.bool true)) (T 15))])
 (.cond (T 16)
 (.seq (.reg [so 17 (.build [(.string ⟨#[]⟩),(.int .i64 (0)),(.int .i64 (0))] [(2,1,(C 1))]),so 4 (.mv (.const (.slice none 0 0))),sn (.store (some 3) (T 5) (T 17))])
 .ret)
 .skip))
 (.seq (.reg [so 6 (.mv (.const (.slice none 0 0)))])
 (.seq (.seq (.reg [so 7 (.mv (C 0))])
 (.block 0
 (.loop
 (.seq (.seq (.reg [sm 18 7,so 19 (.bin .eql (T 18) (C 0)),sm 20 19,sg 21 (.mv (T 7)) 20 false,sg 22 (.mv (T 0)) 20 false,sg 23 (.len false (T 22)) 20 false,sg 24 (.bin .lss (T 21) (T 23)) 20 false,so 25 (.pick (T 20) (.const (.bool true)) (T 24))])
 (.cond (T 25)
 .skip
 (.exit 0)))
 (.block 1
 (.seq (.reg [sm 26 0,sm 27 7,so 28 (.sl none (T 26) (some (T 27)) none),so 29 (.build [(.slice none 0 0),(.int .i64 (0))] [(0,1,(T 28))]),so 30 (.box (T 29)),sm 8 30])
 (.seq (.reg [sm 32 8,sm 33 1,so 34 (.call true Zb7 [(T 32),(T 33)]),sm 31 34,so 35 (.ext (T 31) 0),so 36 (.ext (T 31) 1),so 9 (.alloc [(.string ⟨#[]⟩),(.int .i64 (0)),(.slice none 0 0)]),sn (.store (some 3) (T 9) (T 35)),sm 10 36])
 (.seq (.seq (.reg [sm 37 10,so 38 (.bin .neq (T 37) (C 0))])
 (.cond (T 38)
 (.seq (.reg [sm 39 7,sm 40 10,so 41 (.build [(.string ⟨#[]⟩),(.int .i64 (0)),(.int .i64 (0))] [(1,1,(T 39)),(2,1,(T 40))]),so 4 (.mv (.const (.slice none 0 0))),sn (.store (some 3) (T 5) (T 41))])
 .ret)
 .skip))
 (.seq (.reg [sm 42 6,so 43 (.load (some 3) (T 9)),so 44 (.bslice (some 3) [(T 43)]),so 45 (.app (some 3) 48 (T 42) (T 44)),sm 6 45])
 (.seq (.reg [sm 46 1,so 47 (.faddr 2 (T 9)),so 48 (.load none (T 47)),so 49 (.len false (T 48)),so 50 (.bin .sub (T 46) (T 49)),sm 1 50])
 (.reg [sm 51 7,sm 52 8,so 53 (.nilc (T 52)),so 54 (.faddr 1 (T 53)),so 55 (.load none (T 54)),so 56 (.bin .add (T 51) (T 55)),sm 7 56])))))))))))
 (.seq (.reg [sm 57 6,so 58 (.build [(.string ⟨#[]⟩),(.int .i64 (0)),(.int .i64 (0))] []),sm 4 57,sn (.store (some 3) (T 5) (T 58))])
 .ret)))))
theorem ZhT:Zaj Tryz.prog 59 (Tryz.f16.body.getD .skip)=Zfq:=by kernel_rfl
theorem ZhU:Zaf Tryz.prog Tryz.f16=some [.tmp 4,.cell 5 (some 3)]:=by kernel_rfl
def Zc6:SCode :=
 (.seq (.reg [so 4 (.alloc [(.string ⟨#[]⟩),(.int .i64 (0)),(.slice none 0 0)]),so 5 (.mv (C 0))])
 (.seq (.reg [sm 13 0,so 14 (.call true ZdQ [(T 13)]),sm 12 14,so 15 (.ext (T 12) 0),so 16 (.ext (T 12) 1),so 17 (.ext (T 12) 2),sm 6 15,sm 7 16,sm 8 17])
 (.seq (.seq (.reg [sm 18 8,so 19 (.bin .neq (T 18) (C 0))])
 (.cond (T 19)
 (.seq (.reg [so 20 (.build [(.string ⟨#[]⟩),(.int .i64 (0)),(.slice none 0 0)] []),sm 21 8,sn (.store (some 3) (T 4) (T 20)),sm 5 21])
 .ret)
 .skip))
 (.seq (.reg [sm 23 0,sm 24 6,so 25 (.call true ZcA [(T 23),(T 24)]),sm 22 25,so 26 (.ext (T 22) 0),so 27 (.ext (T 22) 1),sm 9 26,sm 8 27])
 (.seq (.seq (.reg [sm 28 8,so 29 (.bin .neq (T 28) (C 0))])
 (.cond (T 29)
 (.seq (.reg [so 30 (.build [(.string ⟨#[]⟩),(.int .i64 (0)),(.slice none 0 0)] []),sm 31 8,sn (.store (some 3) (T 4) (T 30)),sm 5 31])
 .ret)
 .skip))
 (.seq (.reg [sm 33 0,sm 34 1,so 35 (.call true Zcy [(T 33),(T 34)]),sm 32 35,so 36 (.ext (T 32) 0),so 37 (.ext (T 32) 1),sm 10 36,sm 8 37])
 (.seq (.seq (.reg [sm 38 8,so 39 (.bin .neq (T 38) (C 0))])
 (.cond (T 39)
 (.seq (.reg [so 40 (.build [(.string ⟨#[]⟩),(.int .i64 (0)),(.slice none 0 0)] []),sm 41 8,sn (.store (some 3) (T 4) (T 40)),sm 5 41])
 .ret)
 .skip))
 (.seq (.seq (.reg [sm 42 0,sm 43 10,so 44 (.call true Zgp [(T 42),(T 43)]),sm 11 44])
 (.seq (.reg [sm 45 11,so 46 (.bin .neq (T 45) (C 0))])
 (.cond (T 46)
 (.seq (.reg [so 47 (.build [(.string ⟨#[]⟩),(.int .i64 (0)),(.slice none 0 0)] []),sm 48 11,sn (.store (some 3) (T 4) (T 47)),sm 5 48])
 .ret)
 .skip)))
 (.seq (.reg [sm 49 9,sm 50 7,sm 51 10,so 52 (.build [(.string ⟨#[]⟩),(.int .i64 (0)),(.slice none 0 0)] [(0,1,(T 49)),(1,1,(T 50)),(2,1,(T 51))]),sn (.store (some 3) (T 4) (T 52)),so 5 (.mv (C 0))])
 .ret)))))))))
theorem Zfd:Zaj Tryz.prog 53 (Tryz.f43.body.getD .skip)=Zc6:=by kernel_rfl
theorem Zfe:Zaf Tryz.prog Tryz.f43=some [.cell 4 (some 3),.tmp 5]:=by kernel_rfl
def ZdU:SCode :=
 (.seq (.reg [so 2 (.mv (.const (.int .u8 (0)))),so 3 (.mv (C 0)),so 4 (.mv (C 0))])
 (.seq (.reg [sm 9 0,so 10 (.call true Zcz [(T 9),(C 10)]),sm 8 10,so 11 (.ext (T 8) 0),so 12 (.ext (T 8) 1),sm 5 11,sm 4 12])
 (.seq (.block 0
 (.seq (.reg [sm 14 4,so 15 (.bin .neq (T 14) (C 0)),sm 13 15])
 (.cond (T 13)
 (.seq (.reg [sm 16 4,so 2 (.mv (.const (.int .u8 (0)))),so 3 (.mv (C 0)),sm 4 16])
 .ret)
 (.seq (.reg [sm 18 5,so 19 (.iaddr none (T 18) (C 0)),so 20 (.load none (T 19)),so 21 (.bin .neq (T 20) (.const (.int .u8 (31)))),sm 22 21,sg 23 (.mv (T 5)) 22 false,sg 24 (.iaddr none (T 23) (C 1)) 22 false,sg 25 (.load none (T 24)) 22 false,sg 26 (.bin .neq (T 25) (.const (.int .u8 (139)))) 22 false,so 27 (.pick (T 22) (.const (.bool true)) (T 26)),sm 17 27])
 (.cond (T 17)
 (.seq (.reg [so 2 (.mv (.const (.int .u8 (0)))),so 3 (.mv (C 0)),so 4 (.mv (C 3))])
 .ret)
 (.seq (.reg [sm 29 5,so 30 (.iaddr none (T 29) (C 2)),so 31 (.load none (T 30)),so 32 (.bin .neq (T 31) (.const (.int .u8 (8)))),sm 28 32])
 (.cond (T 28)
 (.seq (.reg [so 2 (.mv (.const (.int .u8 (0)))),so 3 (.mv (C 0)),so 4 (.mv (C 14))])
 .ret)
 (.seq (.reg [sm 34 5,so 35 (.iaddr none (T 34) (C 3)),so 36 (.load none (T 35)),so 37 (.bin .and (T 36) (.const (.int .u8 (224)))),so 38 (.bin .neq (T 37) (.const (.int .u8 (0)))),sm 33 38])
 (.cond (T 33)
 (.seq (.reg [so 2 (.mv (.const (.int .u8 (0)))),so 3 (.mv (C 0)),so 4 (.mv (C 3))])
 .ret)
 .skip)))))))))
 (.seq (.reg [sm 40 5,so 41 (.call true Zli [(T 40),(C 4),(C 4)]),sm 39 41,so 42 (.ext (T 39) 0),so 43 (.ext (T 39) 1),sm 6 42,sm 7 43])
 (.seq (.reg [sm 44 5,so 45 (.iaddr none (T 44) (C 3)),so 46 (.load none (T 45)),sm 47 6,so 48 (.ci .i64 (T 47)),sm 2 46,sm 3 48,so 4 (.mv (C 0))])
 .ret)))))
theorem Zgu:Zaj Tryz.prog 49 (Tryz.f73.body.getD .skip)=ZdU:=by kernel_rfl
theorem Zgv:Zaf Tryz.prog Tryz.f73=some [.tmp 2,.tmp 3,.tmp 4]:=by kernel_rfl
def ZdV:SCode :=
 (.seq (.reg [so 4 (.mv (.const (.string ⟨#[]⟩))),so 5 (.mv (C 0))])
 (.seq (.seq (.reg [sm 6 1,so 7 (.bin .and (T 6) (.const (.int .u8 (4)))),so 8 (.bin .neq (T 7) (.const (.int .u8 (0))))])
 (.cond (T 8)
 (.reg [sm 9 0,so 10 (.call true Zkp [(T 9)]),sm 5 10])
 .skip))
 (.seq (.seq (.reg [sm 11 5,so 12 (.bin .eql (T 11) (C 0)),sm 13 12,sg 14 (.mv (T 1)) 13 true,sg 15 (.bin .and (T 14) (.const (.int .u8 (8)))) 13 true,sg 16 (.bin .neq (T 15) (.const (.int .u8 (0)))) 13 true,so 17 (.pick (T 13) (T 16) (.const (.bool false)))])
 (.cond (T 17)
 (.reg [sm 19 0,so 20 (.call true Zgo [(T 19)]),sm 18 20,so 21 (.ext (T 18) 0),so 22 (.ext (T 18) 1),sm 4 21,sm 5 22])
 .skip))
 (.seq (.seq (.reg [sm 23 5,so 24 (.bin .eql (T 23) (C 0)),sm 25 24,sg 26 (.mv (T 1)) 25 true,sg 27 (.bin .and (T 26) (.const (.int .u8 (16)))) 25 true,sg 28 (.bin .neq (T 27) (.const (.int .u8 (0)))) 25 true,so 29 (.pick (T 25) (T 28) (.const (.bool false)))])
 (.cond (T 29)
 (.reg [sm 31 0,so 32 (.call true ZdR [(T 31)]),sm 30 32,so 33 (.ext (T 30) 0),so 34 (.ext (T 30) 1),sm 5 34])
 .skip))
 (.seq (.seq (.reg [sm 35 5,so 36 (.bin .eql (T 35) (C 0)),sm 37 36,sg 38 (.mv (T 1)) 37 true,sg 39 (.bin .and (T 38) (.const (.int .u8 (2)))) 37 true,sg 40 (.bin .neq (T 39) (.const (.int .u8 (0)))) 37 true,so 41 (.pick (T 37) (T 40) (.const (.bool false)))])
 (.cond (T 41)
 (.reg [sm 42 0,so 43 (.call true Zi0 [(T 42)]),sm 5 43])
 .skip))
 (.seq (.reg [sm 44 4,sm 45 5,sm 4 44,sm 5 45])
 .ret))))))
theorem Zgw:Zaj Tryz.prog 46 (Tryz.f74.body.getD .skip)=ZdV:=by kernel_rfl
theorem Zgx:Zaf Tryz.prog Tryz.f74=some [.tmp 4,.tmp 5]:=by kernel_rfl
def ZdW:SCode :=
 (.seq (.reg [so 4 (.mv (.const (.slice none 0 0))),so 5 (.mv (C 0))])
 (.seq (.reg [sm 12 0,so 13 (.nilc (T 12)),so 14 (.faddr 0 (T 13)),so 15 (.load none (T 14)),sm 16 0,so 17 (.nilc (T 16)),so 18 (.faddr 1 (T 17)),so 19 (.load none (T 18)),so 20 (.sl none (T 15) (some (T 19)) none),sm 6 20])
 (.seq (.reg [so 7 (.mv (C 4096))])
 (.block 0
 (.loop
 (.seq (.block 1
 (.seq (.reg [sm 23 6,sm 24 7,sm 25 6,so 26 (.len false (T 25)),so 27 (.mm false (T 24) [(T 26)]),so 28 (.sl none (T 23) none (some (T 27))),sm 8 28])
 (.seq (.reg [sm 30 8,sm 31 1,so 32 (.call true Zbk [(T 30),(T 31)]),sm 29 32,so 33 (.ext (T 29) 0),so 34 (.ext (T 29) 1),so 35 (.ext (T 29) 2),sm 9 33,sm 10 34,sm 11 35])
 (.seq (.seq (.reg [sm 36 11,so 37 (.bin .eql (T 36) (C 2)),sm 38 37,sg 39 (.mv (T 8)) 38 true,sg 40 (.len false (T 39)) 38 true,sg 41 (.mv (T 6)) 38 true,sg 42 (.len false (T 41)) 38 true,sg 43 (.bin .lss (T 40) (T 42)) 38 true,so 44 (.pick (T 38) (T 43) (.const (.bool false)))])
 (.cond (T 44)
 (.exit 1)
 .skip))
 (.seq (.reg [sm 45 0,so 46 (.nilc (T 45)),so 47 (.faddr 1 (T 46)),so 48 (.load none (T 47)),sm 49 10,so 50 (.bin .add (T 48) (T 49)),so 51 (.nilc (T 45)),so 52 (.faddr 1 (T 51)),sn (.store none (T 52) (T 50))])
 (.seq (.reg [sm 53 9,sm 54 11,sm 4 53,sm 5 54])
 .ret))))))
 (.reg [sm 21 7,so 22 (.bin .mul (T 21) (C 4)),sm 7 22])))))))
theorem Zgy:Zaj Tryz.prog 55 (Tryz.f75.body.getD .skip)=ZdW:=by kernel_rfl
theorem Zgz:Zaf Tryz.prog Tryz.f75=some [.tmp 4,.tmp 5]:=by kernel_rfl
def ZgA:SCode :=
 (.seq (.reg [so 4 (.mv (C 0))])
 (.seq (.reg [sm 9 0,so 10 (.call true Zcz [(T 9),(C 8)]),sm 8 10,so 11 (.ext (T 8) 0),so 12 (.ext (T 8) 1),sm 5 11,sm 6 12])
 (.seq (.seq (.reg [sm 13 6,so 14 (.bin .neq (T 13) (C 0))])
 (.cond (T 14)
 (.seq (.reg [sm 15 6,sm 4 15])
 .ret)
 .skip))
 (.seq (.reg [so 7 (.alloc (List.replicate 8 (.int .u8 (0))))])
 (.seq (.reg [so 16 (.sla 8 none (T 7) none none),sm 17 5,so 18 (.copy (T 16) (T 17))])
 (.seq (.seq (.reg3 [so 19 (.load (some 8) (T 7)),sm 20 1,so 21 (.call true Zkq [(T 20)])]
 [((some 8),(T 7),19)]
 [so 22 (.aeq true (.agg #[(.int .u8 (0)),(.int .u8 (0)),(.int .u8 (0)),(.int .u8 (0)),(.int .u8 (0)),(.int .u8 (0)),(.int .u8 (0)),(.int .u8 (0))]) (T 19) (T 21))])
 (.cond (T 22)
 (.seq (.reg [so 4 (.mv (C 5))])
 .ret)
 .skip))
 (.seq (.reg [so 4 (.mv (C 0))])
 .ret)))))))
theorem Zlj:Zaj Tryz.prog 23 (Tryz.f76.body.getD .skip)=ZgA:=by kernel_rfl
theorem Zlk:Zaf Tryz.prog Tryz.f76=some [.tmp 4]:=by kernel_rfl
def ZdX:SCode :=
 (.seq (.reg [so 4 (.mv (.const (.slice none 0 0))),so 5 (.mv (C 0))])
 (.seq (.seq (.reg [sm 7 0,so 8 (.nilc (T 7)),so 9 (.faddr 0 (T 8)),so 10 (.load none (T 9)),so 11 (.len false (T 10)),sm 12 0,so 13 (.nilc (T 12)),so 14 (.faddr 1 (T 13)),so 15 (.load none (T 14)),so 16 (.bin .sub (T 11) (T 15)),sm 17 1,so 18 (.bin .lss (T 16) (T 17))])
 (.cond (T 18)
 (.seq (.reg [so 4 (.mv (.const (.slice none 0 0))),so 5 (.mv (C 2))])
 .ret)
 .skip))
 (.seq (.reg [sm 19 0,so 20 (.nilc (T 19)),so 21 (.faddr 0 (T 20)),so 22 (.load none (T 21)),sm 23 0,so 24 (.nilc (T 23)),so 25 (.faddr 1 (T 24)),so 26 (.load none (T 25)),sm 27 0,so 28 (.nilc (T 27)),so 29 (.faddr 1 (T 28)),so 30 (.load none (T 29)),sm 31 1,so 32 (.bin .add (T 30) (T 31)),so 33 (.sl none (T 22) (some (T 26)) (some (T 32))),sm 6 33])
 (.seq (.reg [sm 34 0,so 35 (.nilc (T 34)),so 36 (.faddr 1 (T 35)),so 37 (.load none (T 36)),sm 38 1,so 39 (.bin .add (T 37) (T 38)),so 40 (.nilc (T 34)),so 41 (.faddr 1 (T 40)),sn (.store none (T 41) (T 39))])
 (.seq (.reg [sm 42 6,sm 4 42,so 5 (.mv (C 0))])
 .ret)))))
theorem ZgB:Zaj Tryz.prog 43 (Tryz.f114.body.getD .skip)=ZdX:=by kernel_rfl
theorem ZgC:Zaf Tryz.prog Tryz.f114=some [.tmp 4,.tmp 5]:=by kernel_rfl
def ZgD:SCode :=
 (.seq (.reg [so 2 (.mv (.const (.string ⟨#[]⟩))),so 3 (.mv (C 0))])
 (.seq (.reg [sm 7 0,so 8 (.call true ZdR [(T 7)]),sm 6 8,so 9 (.ext (T 6) 0),so 10 (.ext (T 6) 1),sm 4 9,sm 5 10])
 (.seq (.seq (.reg [sm 11 5,so 12 (.bin .neq (T 11) (C 0))])
 (.cond (T 12)
 (.seq (.reg [sm 13 5,so 2 (.mv (.const (.string ⟨#[]⟩))),sm 3 13])
 .ret)
 .skip))
 (.seq (.seq (.reg [sm 14 4,so 15 (.len false (T 14)),so 16 (.bin .gtr (T 15) (C 200))])
 (.cond (T 16)
 (.seq (.reg [so 2 (.mv (.const (.string ⟨#[]⟩))),so 3 (.mv (C 10))])
 .ret)
 .skip))
 (.seq (.reg [sm 17 4,so 18 (.b2s (T 17)),sm 2 18,so 3 (.mv (C 0))])
 .ret)))))
theorem Zll:Zaj Tryz.prog 19 (Tryz.f117.body.getD .skip)=ZgD:=by kernel_rfl
theorem Zlm:Zaf Tryz.prog Tryz.f117=some [.tmp 2,.tmp 3]:=by kernel_rfl
def ZgE:SCode :=
 (.seq (.reg [so 2 (.mv (.const (.slice none 0 0))),so 3 (.mv (C 0))])
 (.seq (.reg [sm 6 0,so 7 (.nilc (T 6)),so 8 (.faddr 0 (T 7)),so 9 (.load none (T 8)),sm 10 0,so 11 (.nilc (T 10)),so 12 (.faddr 1 (T 11)),so 13 (.load none (T 12)),so 14 (.sl none (T 9) (some (T 13)) none),so 15 (.call true Zhc [(T 14),(.const (.int .u8 (0)))]),sm 4 15])
 (.seq (.seq (.reg [sm 16 4,so 17 (.bin .lss (T 16) (C 0))])
 (.cond (T 17)
 (.seq (.reg [so 2 (.mv (.const (.slice none 0 0))),so 3 (.mv (C 2))])
 .ret)
 .skip))
 (.seq (.reg [sm 18 0,so 19 (.nilc (T 18)),so 20 (.faddr 0 (T 19)),so 21 (.load none (T 20)),sm 22 0,so 23 (.nilc (T 22)),so 24 (.faddr 1 (T 23)),so 25 (.load none (T 24)),sm 26 0,so 27 (.nilc (T 26)),so 28 (.faddr 1 (T 27)),so 29 (.load none (T 28)),sm 30 4,so 31 (.bin .add (T 29) (T 30)),so 32 (.sl none (T 21) (some (T 25)) (some (T 31))),sm 5 32])
 (.seq (.reg [sm 33 0,so 34 (.nilc (T 33)),so 35 (.faddr 1 (T 34)),so 36 (.load none (T 35)),sm 37 4,so 38 (.bin .add (T 37) (C 1)),so 39 (.bin .add (T 36) (T 38)),so 40 (.nilc (T 33)),so 41 (.faddr 1 (T 40)),sn (.store none (T 41) (T 39))])
 (.seq (.reg [sm 42 5,sm 2 42,so 3 (.mv (C 0))])
 .ret))))))
theorem Zln:Zaj Tryz.prog 43 (Tryz.f118.body.getD .skip)=ZgE:=by kernel_rfl
theorem Zlo:Zaf Tryz.prog Tryz.f118=some [.tmp 2,.tmp 3]:=by kernel_rfl
def ZfX:SCode :=
 (.seq (.reg [so 4 (.mv (C 0))])
 (.seq (.reg [sm 5 0,sm 6 1,so 7 (.call true ZdT [(T 5),(T 6)]),sm 4 7])
 .ret))
theorem Zks:Zaj Tryz.prog 8 (Tryz.f36.body.getD .skip)=ZfX:=by kernel_rfl
theorem Zkt:Zaf Tryz.prog Tryz.f36=some [.tmp 4]:=by kernel_rfl
def ZhV:SCode :=
 (.seq (.reg [so 2 (.mv (.const (.slice none 0 0)))])
 (.seq (.seq (.reg [sm 3 0,so 4 (.isnil false (T 3))])
 (.cond (T 4)
 (.seq (.reg [so 2 (.mv (.const (.slice none 0 0)))])
 .ret)
 .skip))
 (.seq (.reg [so 5 (.emp none),sm 6 0,so 7 (.app none 1 (T 5) (T 6)),sm 2 7])
 .ret)))
theorem Zlp:Zaj Tryz.prog 8 (Tryz.f54.body.getD .skip)=ZhV:=by kernel_rfl
theorem Zlq:Zaf Tryz.prog Tryz.f54=some [.tmp 2]:=by kernel_rfl
def ZdY:SCode :=
 (.seq (.reg [so 2 (.mv (.const (.slice none 0 0)))])
 (.seq (.reg [so 3 (.mv (C 0))])
 (.seq (.seq (.reg [sm 9 0,so 10 (.len false (T 9)),so 11 (.mv (C 0))])
 (.block 0
 (.loop
 (.seq (.reg [so 12 (.bin .lss (T 11) (T 10))])
 (.seq (.cond (T 12)
 .skip
 (.exit 0))
 (.seq (.block 1
 (.seq (.reg [so 13 (.iaddr none (T 9) (T 11)),so 14 (.load none (T 13)),sm 5 14])
 (.seq (.reg [sm 15 3,sm 16 5,so 17 (.len false (T 16)),so 18 (.bin .add (T 15) (T 17)),sm 3 18])
 (.seq (.reg [sm 19 3,so 20 (.bin .lss (T 19) (C 0))])
 (.cond (T 20)
 (.reg [so 21 (.no),sn (.no)])
 .skip)))))
 (.reg [so 22 (.bin .add (T 11) (C 1)),sm 11 22])))))))
 (.seq (.reg [sm 23 3,so 24 (.call true ZeP [(.const (.slice none 0 0)),(T 23)]),sm 6 24])
 (.seq (.seq (.reg [sm 25 0,so 26 (.len false (T 25)),so 27 (.mv (C 0))])
 (.block 2
 (.loop
 (.seq (.reg [so 28 (.bin .lss (T 27) (T 26))])
 (.seq (.cond (T 28)
 .skip
 (.exit 2))
 (.seq (.block 3
 (.seq (.reg [so 29 (.iaddr none (T 25) (T 27)),so 30 (.load none (T 29)),sm 8 30])
 (.reg [sm 31 6,sm 32 8,so 33 (.app none 1 (T 31) (T 32)),sm 6 33])))
 (.reg [so 34 (.bin .add (T 27) (C 1)),sm 27 34])))))))
 (.seq (.reg [sm 35 6,sm 2 35])
 .ret))))))
theorem ZhW:Zaj Tryz.prog 36 (Tryz.f38.body.getD .skip)=ZdY:=by kernel_rfl
theorem ZhX:Zaf Tryz.prog Tryz.f38=some [.tmp 2]:=by kernel_rfl
def ZeQ:SCode :=
 (.seq (.reg [so 4 (.mv (.const (.slice none 0 0)))])
 (.seq (.seq (.reg [sm 5 1,so 6 (.bin .lss (T 5) (C 0))])
 (.cond (T 6)
 (.reg [so 7 (.no),sn (.no)])
 .skip))
 (.seq (.seq (.reg [sm 8 1,sm 9 0,so 10 (.capn (T 9)),sm 11 0,so 12 (.len false (T 11)),so 13 (.bin .sub (T 10) (T 12)),so 14 (.bin .sub (T 8) (T 13)),sm 1 14])
 (.seq (.reg [sm 15 1,so 16 (.bin .gtr (T 15) (C 0))])
 (.cond (T 16)
 (.reg [sm 17 0,sm 18 0,so 19 (.capn (T 18)),so 20 (.sl none (T 17) none (some (T 19))),sm 21 1,so 22 (.appz none 1 [(.int .u8 (0))] (T 20) (T 21)),sm 23 0,so 24 (.len false (T 23)),so 25 (.sl none (T 22) none (some (T 24))),sm 0 25])
 .skip)))
 (.seq (.reg [sm 26 0,sm 4 26])
 .ret))))
theorem Zi3:Zaj Tryz.prog 27 (Tryz.f70.body.getD .skip)=ZeQ:=by kernel_rfl
theorem Zi4:Zaf Tryz.prog Tryz.f70=some [.tmp 4]:=by kernel_rfl
def Zqb:SCode :=
 (.seq (.reg [so 4 (.mv (.const (.slice none 0 0)))])
 (.seq (.seq (.reg [sm 7 1,so 8 (.bin .lss (T 7) (C 1)),sm 9 8,sg 10 (.mv (T 1)) 9 false,sg 11 (.bin .gtr (T 10) (C 8)) 9 false,so 12 (.pick (T 9) (.const (.bool true)) (T 11))])
 (.cond (T 12)
 (.seq (.reg [so 4 (.mv (.const (.slice none 0 0)))])
 .ret)
 .skip))
 (.seq (.reg [sm 13 1,so 14 (.mks none 1 [(.int .u8 (0))] (T 13) (T 13)),sm 5 14])
 (.seq (.seq (.reg [sm 15 1,so 16 (.mv (C 0))])
 (.block 0
 (.loop
 (.seq (.reg [so 17 (.bin .lss (T 16) (T 15))])
 (.seq (.cond (T 17)
 .skip
 (.exit 0))
 (.seq (.block 1
 (.seq (.reg [sm 18 16,sm 6 18])
 (.reg [sm 19 5,sm 20 6,sm 21 0,sm 22 6,so 23 (.bin .mul (C 8) (T 22)),so 24 (.bin .shr (T 21) (T 23)),so 25 (.ci .u8 (T 24)),so 26 (.iaddr none (T 19) (T 20)),sn (.store none (T 26) (T 25))])))
 (.reg [so 27 (.bin .add (T 16) (C 1)),sm 16 27])))))))
 (.seq (.reg [sm 28 5,sm 4 28])
 .ret)))))
theorem ZxY:Zaj Tryz.prog 29 (Tryz.f68.body.getD .skip)=Zqb:=by kernel_rfl
theorem ZxZ:Zaf Tryz.prog Tryz.f68=some [.tmp 4]:=by kernel_rfl
def Zlr:SCode :=
 (.seq (.reg [so 6 (.mv (.const (.int .u64 (0)))),so 7 (.mv (.const (.bool false)))])
 (.seq (.seq (.reg [sm 10 0,sm 11 1,sm 12 2,so 13 (.call true Zka [(T 10),(T 11),(T 12)]),so 14 (.un .not (T 13))])
 (.cond (T 14)
 (.seq (.reg [so 6 (.mv (.const (.int .u64 (0)))),so 7 (.mv (.const (.bool false)))])
 .ret)
 .skip))
 (.seq (.reg [so 8 (.mv (.const (.int .u64 (0))))])
 (.seq (.seq (.reg [sm 15 2,so 16 (.mv (C 0))])
 (.block 0
 (.loop
 (.seq (.reg [so 17 (.bin .lss (T 16) (T 15))])
 (.seq (.cond (T 17)
 .skip
 (.exit 0))
 (.seq (.block 1
 (.seq (.reg [sm 18 16,sm 9 18])
 (.reg [sm 19 8,sm 20 0,sm 21 1,sm 22 9,so 23 (.bin .add (T 21) (T 22)),so 24 (.iaddr none (T 20) (T 23)),so 25 (.load none (T 24)),so 26 (.ci .u64 (T 25)),sm 27 9,so 28 (.bin .mul (C 8) (T 27)),so 29 (.bin .shl (T 26) (T 28)),so 30 (.bin .or (T 19) (T 29)),sm 8 30])))
 (.reg [so 31 (.bin .add (T 16) (C 1)),sm 16 31])))))))
 (.seq (.reg [sm 32 8,sm 6 32,so 7 (.mv (.const (.bool true)))])
 .ret)))))
theorem Zq1:Zaj Tryz.prog 33 (Tryz.f115.body.getD .skip)=Zlr:=by kernel_rfl
theorem Zq2:Zaf Tryz.prog Tryz.f115=some [.tmp 6,.tmp 7]:=by kernel_rfl
def Zkc:SCode :=
 (.seq (.reg [so 6 (.mv (.const (.bool false)))])
 (.seq (.seq (.reg [sm 7 2,so 8 (.bin .lss (T 7) (C 1)),sm 9 8,sg 10 (.mv (T 2)) 9 false,sg 11 (.bin .gtr (T 10) (C 8)) 9 false,so 12 (.pick (T 9) (.const (.bool true)) (T 11)),sm 13 12,sg 14 (.mv (T 1)) 13 false,sg 15 (.bin .lss (T 14) (C 0)) 13 false,so 16 (.pick (T 13) (.const (.bool true)) (T 15))])
 (.cond (T 16)
 (.seq (.reg [so 6 (.mv (.const (.bool false)))])
 .ret)
 .skip))
 (.seq (.reg [sm 17 1,sm 18 0,so 19 (.len false (T 18)),sm 20 2,so 21 (.bin .sub (T 19) (T 20)),so 22 (.bin .leq (T 17) (T 21)),sm 6 22])
 .ret)))
theorem Zpq:Zaj Tryz.prog 23 (Tryz.f143.body.getD .skip)=Zkc:=by kernel_rfl
theorem Zpr:Zaf Tryz.prog Tryz.f143=some [.tmp 6]:=by kernel_rfl
def Zm1:SCode :=
 (.seq (.reg [so 2 (.mv (.const (.int .u32 (0))))])
 (.seq (.reg [sm 3 0,so 4 (.call true Ziq [(.const (.int .u32 (0))),(T 3)]),sm 2 4])
 .ret))
theorem Zsm:Zaj Tryz.prog 5 (Tryz.f69.body.getD .skip)=Zm1:=by kernel_rfl
theorem Zsn:Zaf Tryz.prog Tryz.f69=some [.tmp 2]:=by kernel_rfl
def Ziu:SCode :=
 (.seq (.reg [so 4 (.mv (.const (.int .u32 (0))))])
 (.seq (.reg [sm 9 0,so 10 (.un .xor (T 9)),sm 5 10])
 (.seq (.seq (.reg [sm 11 1,so 12 (.len false (T 11)),so 13 (.mv (C 0))])
 (.block 0
 (.loop
 (.seq (.reg [so 14 (.bin .lss (T 13) (T 12))])
 (.seq (.cond (T 14)
 .skip
 (.exit 0))
 (.seq (.block 1
 (.seq (.reg [so 15 (.iaddr none (T 11) (T 13)),so 16 (.load none (T 15)),sm 7 16])
 (.seq (.reg [sm 17 5,sm 18 7,so 19 (.ci .u32 (T 18)),so 20 (.bin .xor (T 17) (T 19)),sm 5 20])
 (.seq (.reg [so 21 (.mv (C 0))])
 (.block 2
 (.loop
 (.seq (.reg [so 22 (.bin .lss (T 21) (C 8))])
 (.seq (.cond (T 22)
 .skip
 (.exit 2))
 (.seq (.block 3
 (.seq (.reg [sm 23 5,so 24 (.bin .and (T 23) (.const (.int .u32 (1)))),sm 8 24])
 (.seq (.reg [sm 25 5,so 26 (.bin .shr (T 25) (.const (.int .u64 (1)))),sm 5 26])
 (.seq (.reg [sm 27 8,so 28 (.bin .neq (T 27) (.const (.int .u32 (0))))])
 (.cond (T 28)
 (.reg [sm 29 5,so 30 (.bin .xor (T 29) (.const (.int .u32 (3988292384)))),sm 5 30])
 .skip)))))
 (.reg [so 31 (.bin .add (T 21) (C 1)),sm 21 31]))))))))))
 (.reg [so 32 (.bin .add (T 13) (C 1)),sm 13 32])))))))
 (.seq (.reg [sm 33 5,so 34 (.un .xor (T 33)),sm 4 34])
 .ret))))
theorem Znl:Zaj Tryz.prog 35 (Tryz.f113.body.getD .skip)=Ziu:=by kernel_rfl
theorem Znm:Zaf Tryz.prog Tryz.f113=some [.tmp 4]:=by kernel_rfl
def Zcd:SCode :=
 (.seq (.reg [so 4 (.mv (.const (.slice none 0 0))),so 5 (.mv (C 0))])
 (.seq (.seq (.reg [sm 7 1,so 8 (.bin .lss (T 7) (C 0)),sm 9 8,sg 10 (.mv (T 1)) 9 false,sg 11 (.bin .gtr (T 10) (C 2)) 9 false,so 12 (.pick (T 9) (.const (.bool true)) (T 11))])
 (.cond (T 12)
 (.seq (.reg [so 4 (.mv (.const (.slice none 0 0))),so 5 (.mv (C 1))])
 .ret)
 .skip))
 (.seq (.seq (.reg [sm 13 0,so 14 (.len false (T 13)),so 15 (.bin .gtr (T 14) (C 16777216))])
 (.cond (T 15)
 (.seq (.reg [so 4 (.mv (.const (.slice none 0 0))),so 5 (.mv (C 4))])
 .ret)
 .skip))
 (.seq (.reg [so 16 (.call true Zis []),so 17 (.build [(.pointer none)] [(0,1,(T 16))]),so 6 (.alloc [(.pointer none)]),sn (.store (some 1) (T 6) (T 17))])
 (.seq (.seq (.reg [sm 18 1])
 (.block 0
 (.seq (.reg [so 20 (.bin .eql (T 18) (C 0)),sm 19 20])
 (.cond (T 19)
 (.reg [so 21 (.load (some 1) (T 6)),sm 22 0,so 23 (.call true ZdL [(T 21),(T 22)])])
 (.seq (.reg [so 25 (.bin .eql (T 18) (C 1)),sm 24 25])
 (.cond (T 24)
 (.reg3 [so 26 (.load (some 1) (T 6)),sm 27 0,so 28 (.call true ZdM [(T 27)])]
 [((some 1),(T 6),26)]
 [so 29 (.call true Zem [(T 26),(T 28)])])
 (.seq (.reg [so 31 (.bin .eql (T 18) (C 2)),sm 30 31])
 (.cond (T 30)
 (.reg3 [so 32 (.load (some 1) (T 6)),sm 33 0,so 34 (.call true ZdM [(T 33)])]
 [((some 1),(T 6),32)]
 [so 35 (.call true ZdA [(T 32),(T 34)])])
 .skip))))))))
 (.seq (.reg [so 36 (.faddr 0 (T 6)),so 37 (.load none (T 36)),so 38 (.call true ZfT [(T 37)]),sm 4 38,so 5 (.mv (C 0))])
 .ret))))))
theorem ZcS:Zaj Tryz.prog 39 (Tryz.f9.body.getD .skip)=Zcd:=by kernel_rfl
theorem ZcT:Zaf Tryz.prog Tryz.f9=some [.tmp 4,.tmp 5]:=by kernel_rfl
def ZeE:SCode :=
 (.seq (.reg [so 4 (.mv (.const (.slice none 0 0))),so 5 (.mv (C 0)),so 6 (.mv (C 0))])
 (.seq (.seq (.reg [sm 9 1,so 10 (.bin .lss (T 9) (C 0)),sm 11 10,sg 12 (.mv (T 1)) 11 false,sg 13 (.bin .gtr (T 12) (C 16777216)) 11 false,so 14 (.pick (T 11) (.const (.bool true)) (T 13))])
 (.cond (T 14)
 (.seq (.reg [so 4 (.mv (.const (.slice none 0 0))),so 5 (.mv (C 0)),so 6 (.mv (C 1))])
 .ret)
 .skip))
 (.seq (.reg [sm 15 0,so 16 (.call true Zir [(T 15)]),sm 17 1,so 18 (.build [(.pointer none),(.slice none 0 0),(.int .i64 (0)),(.pointer none)] [(0,1,(T 16)),(2,1,(T 17))]),so 19 (.box (T 18)),sm 7 19])
 (.seq (.seq (.reg [so 8 (.mv (.const (.bool false)))])
 (.block 0
 (.loop
 (.seq (.seq (.reg [sm 20 8,so 21 (.un .not (T 20))])
 (.cond (T 21)
 .skip
 (.exit 0)))
 (.block 1
 (.seq (.reg [sm 23 7,so 24 (.call true Zcc [(T 23)]),sm 22 24,so 25 (.ext (T 22) 0),so 26 (.ext (T 22) 1),sm 8 25,sm 6 26])
 (.seq (.reg [sm 27 6,so 28 (.bin .neq (T 27) (C 0))])
 (.cond (T 28)
 (.seq (.reg [sm 29 6,so 4 (.mv (.const (.slice none 0 0))),so 5 (.mv (C 0)),sm 6 29])
 .ret)
 .skip))))))))
 (.seq (.reg [sm 30 7,so 31 (.nilc (T 30)),so 32 (.faddr 0 (T 31)),so 33 (.load none (T 32)),so 34 (.call true Zit [(T 33)]),so 35 (.bin .add (T 34) (C 8)),so 36 (.bin .sub (T 35) (C 1)),so 37 (.bin .quo (T 36) (C 8)),sm 5 37])
 (.seq (.reg [sm 38 7,so 39 (.nilc (T 38)),so 40 (.faddr 1 (T 39)),so 41 (.load none (T 40)),sm 42 7,so 43 (.nilc (T 42)),so 44 (.faddr 1 (T 43)),so 45 (.load none (T 44)),so 46 (.len false (T 45)),sm 47 7,so 48 (.nilc (T 47)),so 49 (.faddr 1 (T 48)),so 50 (.load none (T 49)),so 51 (.len false (T 50)),so 52 (.sl3 none (T 41) none (T 46) (T 51)),sm 53 5,sm 4 52,sm 5 53,so 6 (.mv (C 0))])
 .ret))))))
theorem Zhh:Zaj Tryz.prog 54 (Tryz.f10.body.getD .skip)=ZeE:=by kernel_rfl
theorem Zhi:Zaf Tryz.prog Tryz.f10=some [.tmp 4,.tmp 5,.tmp 6]:=by kernel_rfl
def Ziv:SCode :=
 (.seq (.reg [so 2 (.mv (.const (.pointer none)))])
 (.seq (.reg [sm 3 0,so 4 (.call true ZdK [(T 3)]),so 5 (.build [(.slice none 0 0),(.int .i64 (0))] [(0,1,(T 4))]),so 6 (.box (T 5)),sm 2 6])
 .ret))
theorem Znn:Zaj Tryz.prog 7 (Tryz.f25.body.getD .skip)=Ziv:=by kernel_rfl
theorem Zno:Zaf Tryz.prog Tryz.f25=some [.tmp 2]:=by kernel_rfl
def Zce:SCode :=
 (.seq (.reg [so 2 (.mv (.const (.bool false))),so 3 (.mv (C 0))])
 (.seq (.reg [sm 8 0,so 9 (.nilc (T 8)),so 10 (.faddr 0 (T 9)),so 11 (.load none (T 10)),so 12 (.call true ZaV [(T 11),(C 3)]),sm 7 12,so 13 (.ext (T 7) 0),so 14 (.ext (T 7) 1),sm 4 13,sm 5 14])
 (.seq (.seq (.reg [sm 15 5,so 16 (.un .not (T 15))])
 (.cond (T 16)
 (.seq (.reg [so 2 (.mv (.const (.bool false))),so 3 (.mv (C 2))])
 .ret)
 .skip))
 (.seq (.seq (.reg [sm 17 4,so 18 (.bin .shr (T 17) (.const (.int .u64 (1))))])
 (.block 0
 (.seq (.reg [so 20 (.bin .eql (T 18) (C 0)),sm 19 20])
 (.cond (T 19)
 (.reg [sm 21 0,so 22 (.call true Zda [(T 21)]),sm 3 22])
 (.seq (.reg [so 24 (.bin .eql (T 18) (C 1)),sm 23 24])
 (.cond (T 23)
 (.seq (.seq (.reg [sm 25 0,so 26 (.nilc (T 25)),so 27 (.faddr 3 (T 26)),so 28 (.load none (T 27)),so 29 (.isnilp false (T 28))])
 (.cond (T 29)
 (.reg [sm 30 0,so 31 (.call true Zfb []),so 32 (.nilc (T 30)),so 33 (.faddr 3 (T 32)),sn (.store none (T 33) (T 31))])
 .skip))
 (.reg [sm 34 0,sm 35 0,so 36 (.nilc (T 35)),so 37 (.faddr 3 (T 36)),so 38 (.load none (T 37)),so 39 (.call true ZbR [(T 34),(T 38)]),sm 3 39]))
 (.seq (.reg [so 41 (.bin .eql (T 18) (C 2)),sm 40 41])
 (.cond (T 40)
 (.seq (.reg [so 6 (.mv (.const (.pointer none)))])
 (.seq (.reg [sm 43 0,so 44 (.call true ZcC [(T 43)]),sm 42 44,so 45 (.ext (T 42) 0),so 46 (.ext (T 42) 1),sm 6 45,sm 3 46])
 (.seq (.reg [sm 47 3,so 48 (.bin .eql (T 47) (C 0))])
 (.cond (T 48)
 (.reg [sm 49 0,sm 50 6,so 51 (.call true ZbR [(T 49),(T 50)]),sm 3 51])
 .skip))))
 (.reg [so 3 (.mv (C 3))])))))))))
 (.seq (.reg [sm 52 4,so 53 (.bin .and (T 52) (C 1)),so 54 (.bin .eql (T 53) (C 1)),sm 55 3,sm 2 54,sm 3 55])
 .ret)))))
theorem ZdB:Zaj Tryz.prog 56 (Tryz.f26.body.getD .skip)=Zce:=by kernel_rfl
theorem ZdC:Zaf Tryz.prog Tryz.f26=some [.tmp 2,.tmp 3]:=by kernel_rfl
def Ziw:SCode :=
 (.seq (.reg [so 2 (.mv (C 0))])
 (.seq (.reg [sm 3 0,so 4 (.nilc (T 3)),so 5 (.faddr 1 (T 4)),so 6 (.load none (T 5)),sm 2 6])
 .ret))
theorem Znp:Zaj Tryz.prog 7 (Tryz.f27.body.getD .skip)=Ziw:=by kernel_rfl
theorem Znq:Zaf Tryz.prog Tryz.f27=some [.tmp 2]:=by kernel_rfl
def ZdZ:SCode :=
 (.seq (.reg [so 4 (.mv (C 0)),so 5 (.mv (.const (.bool false)))])
 (.seq (.seq (.reg [sm 8 1,so 9 (.bin .lss (T 8) (C 0)),sm 10 9,sg 11 (.mv (T 1)) 10 false,sg 12 (.bin .gtr (T 11) (C 24)) 10 false,so 13 (.pick (T 10) (.const (.bool true)) (T 12)),sm 14 13,sg 15 (.mv (T 1)) 14 false,sg 16 (.mv (T 0)) 14 false,sg 17 (.call true ZcB [(T 16)]) 14 false,sg 18 (.bin .gtr (T 15) (T 17)) 14 false,so 19 (.pick (T 14) (.const (.bool true)) (T 18))])
 (.cond (T 19)
 (.seq (.reg [so 4 (.mv (C 0)),so 5 (.mv (.const (.bool false)))])
 .ret)
 .skip))
 (.seq (.reg [so 6 (.mv (C 0))])
 (.seq (.seq (.reg [sm 20 1,so 21 (.mv (C 0))])
 (.block 0
 (.loop
 (.seq (.reg [so 22 (.bin .lss (T 21) (T 20))])
 (.seq (.cond (T 22)
 .skip
 (.exit 0))
 (.seq (.block 1
 (.seq (.reg [sm 23 21,sm 7 23])
 (.reg [sm 24 6,sm 25 0,so 26 (.call true ZeC [(T 25)]),sm 27 7,so 28 (.bin .shl (T 26) (T 27)),so 29 (.bin .or (T 24) (T 28)),sm 6 29])))
 (.reg [so 30 (.bin .add (T 21) (C 1)),sm 21 30])))))))
 (.seq (.reg [sm 31 6,sm 4 31,so 5 (.mv (.const (.bool true)))])
 .ret)))))
theorem ZgF:Zaj Tryz.prog 32 (Tryz.f55.body.getD .skip)=ZdZ:=by kernel_rfl
theorem ZgG:Zaf Tryz.prog Tryz.f55=some [.tmp 4,.tmp 5]:=by kernel_rfl
def Zdc:SCode :=
 (.seq (.reg [so 2 (.mv (C 0))])
 (.seq (.reg [sm 7 0,so 8 (.nilc (T 7)),so 9 (.faddr 0 (T 8)),so 10 (.load none (T 9)),so 11 (.call true Zdo [(T 10)])])
 (.seq (.reg [sm 13 0,so 14 (.nilc (T 13)),so 15 (.faddr 0 (T 14)),so 16 (.load none (T 15)),so 17 (.call true ZaV [(T 16),(C 16)]),sm 12 17,so 18 (.ext (T 12) 0),so 19 (.ext (T 12) 1),sm 3 18,sm 4 19])
 (.seq (.seq (.reg [sm 20 4,so 21 (.un .not (T 20))])
 (.cond (T 21)
 (.seq (.reg [so 2 (.mv (C 2))])
 .ret)
 .skip))
 (.seq (.reg [sm 23 0,so 24 (.nilc (T 23)),so 25 (.faddr 0 (T 24)),so 26 (.load none (T 25)),so 27 (.call true ZaV [(T 26),(C 16)]),sm 22 27,so 28 (.ext (T 22) 0),so 29 (.ext (T 22) 1),sm 5 28,sm 4 29])
 (.seq (.seq (.reg [sm 30 4,so 31 (.un .not (T 30))])
 (.cond (T 31)
 (.seq (.reg [so 2 (.mv (C 2))])
 .ret)
 .skip))
 (.seq (.seq (.reg [sm 32 3,sm 33 5,so 34 (.bin .add (T 32) (T 33)),so 35 (.bin .neq (T 34) (C 65535))])
 (.cond (T 35)
 (.seq (.reg [so 2 (.mv (C 3))])
 .ret)
 .skip))
 (.seq (.reg [sm 37 0,so 38 (.nilc (T 37)),so 39 (.faddr 0 (T 38)),so 40 (.load none (T 39)),sm 41 3,so 42 (.call true Zdp [(T 40),(T 41)]),sm 36 42,so 43 (.ext (T 36) 0),so 44 (.ext (T 36) 1),sm 6 43,sm 4 44])
 (.seq (.seq (.reg [sm 45 4,so 46 (.un .not (T 45))])
 (.cond (T 46)
 (.seq (.reg [so 2 (.mv (C 2))])
 .ret)
 .skip))
 (.seq (.seq (.reg [sm 47 3,sm 48 0,so 49 (.call true ZbB [(T 48)]),so 50 (.bin .gtr (T 47) (T 49))])
 (.cond (T 50)
 (.seq (.reg [so 2 (.mv (C 4))])
 .ret)
 .skip))
 (.seq (.reg [sm 51 0,sm 52 0,so 53 (.nilc (T 52)),so 54 (.faddr 1 (T 53)),so 55 (.load none (T 54)),sm 56 6,so 57 (.app none 1 (T 55) (T 56)),so 58 (.nilc (T 51)),so 59 (.faddr 1 (T 58)),sn (.store none (T 59) (T 57))])
 (.seq (.reg [so 2 (.mv (C 0))])
 .ret))))))))))))
theorem ZgU:Zaj Tryz.prog 60 (Tryz.f56.body.getD .skip)=Zdc:=by kernel_rfl
theorem ZgV:Zaf Tryz.prog Tryz.f56=some [.tmp 2]:=by kernel_rfl
def Zff:SCode :=
 (.seq (.reg [so 0 (.mv (.const (.pointer none)))])
 (.seq (.reg [so 6 (.bsl none [(C 8)]),so 7 (.call true Zaw [(T 6),(C 144)]),so 8 (.bsl none [(C 9)]),so 9 (.call true Zaw [(T 8),(C 112)]),so 10 (.bsl none [(C 7)]),so 11 (.call true Zaw [(T 10),(C 24)]),so 12 (.bsl none [(C 8)]),so 13 (.call true Zaw [(T 12),(C 8)]),so 14 (.bslice none [(T 7),(T 9),(T 11),(T 13)]),so 15 (.call true Za6 [(T 14)]),so 16 (.call true ZbY [(T 15)]),sm 5 16,so 17 (.ext (T 5) 0),so 18 (.ext (T 5) 1),sm 1 17,sm 2 18])
 (.seq (.reg [so 20 (.bsl none [(C 5)]),so 21 (.call true Zaw [(T 20),(C 32)]),so 22 (.call true ZbY [(T 21)]),sm 19 22,so 23 (.ext (T 19) 0),so 24 (.ext (T 19) 1),sm 3 23,sm 4 24])
 (.seq (.reg [sm 25 1,sm 26 3,so 27 (.build [(.pointer none),(.pointer none)] [(0,1,(T 25)),(1,1,(T 26))]),so 28 (.box (T 27)),sm 0 28])
 .ret))))
theorem ZjU:Zaj Tryz.prog 29 (Tryz.f57.body.getD .skip)=Zff:=by kernel_rfl
theorem ZjV:Zaf Tryz.prog Tryz.f57=some [.tmp 0]:=by kernel_rfl
def ZcY:SCode :=
 (.seq (.reg [so 4 (.mv (C 0))])
 (.block 0
 (.loop
 (.block 1
 (.seq (.reg [sm 8 1,so 9 (.nilc (T 8)),so 10 (.faddr 0 (T 9)),so 11 (.load none (T 10)),sm 12 0,so 13 (.nilc (T 12)),so 14 (.faddr 0 (T 13)),so 15 (.load none (T 14)),so 16 (.call true Zdl [(T 11),(T 15)]),sm 7 16,so 17 (.ext (T 7) 0),so 18 (.ext (T 7) 1),sm 5 17,sm 6 18])
 (.seq (.block 2
 (.seq (.reg [sm 29 6,so 30 (.bin .neq (T 29) (C 0)),sm 28 30])
 (.cond (T 28)
 (.seq (.reg [sm 31 6,sm 4 31])
 .ret)
 (.seq (.reg [sm 33 5,so 34 (.bin .lss (T 33) (C 256)),sm 32 34])
 (.cond (T 32)
 (.reg [sm 35 0,sm 36 5,so 37 (.ci .u8 (T 36)),so 38 (.call true ZbQ [(T 35),(T 37)]),sm 6 38])
 (.seq (.reg [sm 40 5,so 41 (.bin .eql (T 40) (C 256)),sm 39 41])
 (.cond (T 39)
 (.seq (.reg [so 4 (.mv (C 0))])
 .ret)
 (.reg [sm 19 0,sm 20 5,so 21 (.bin .sub (T 20) (C 256)),so 22 (.bin .sub (T 21) (C 1)),sm 23 1,so 24 (.nilc (T 23)),so 25 (.faddr 1 (T 24)),so 26 (.load none (T 25)),so 27 (.call true Zen [(T 19),(T 22),(T 26)]),sm 6 27]))))))))
 (.seq (.reg [sm 42 6,so 43 (.bin .neq (T 42) (C 0))])
 (.cond (T 43)
 (.seq (.reg [sm 44 6,sm 4 44])
 .ret)
 .skip))))))))
theorem Zgf:Zaj Tryz.prog 45 (Tryz.f58.body.getD .skip)=ZcY:=by kernel_rfl
theorem Zgg:Zaf Tryz.prog Tryz.f58=some [.tmp 4]:=by kernel_rfl
def ZcD:SCode :=
 (.seq (.reg [so 2 (.mv (.const (.pointer none))),so 3 (.mv (C 0))])
 (.seq (.reg [sm 12 0,so 13 (.nilc (T 12)),so 14 (.faddr 0 (T 13)),so 15 (.load none (T 14)),so 16 (.call true ZaV [(T 15),(C 14)]),sm 11 16,so 17 (.ext (T 11) 0),so 18 (.ext (T 11) 1),sm 4 17,sm 5 18])
 (.seq (.seq (.reg [sm 19 5,so 20 (.un .not (T 19))])
 (.cond (T 20)
 (.seq (.reg [so 2 (.mv (.const (.pointer none))),so 3 (.mv (C 2))])
 .ret)
 .skip))
 (.seq (.reg [sm 21 4,so 22 (.bin .and (T 21) (C 31)),so 23 (.bin .add (T 22) (C 257)),sm 24 4,so 25 (.bin .shr (T 24) (.const (.int .u64 (5)))),so 26 (.bin .and (T 25) (C 31)),so 27 (.bin .add (T 26) (C 1)),sm 6 23,sm 7 27])
 (.seq (.seq (.reg [sm 28 6,so 29 (.bin .gtr (T 28) (C 286)),sm 30 29,sg 31 (.mv (T 7)) 30 false,sg 32 (.bin .gtr (T 31) (C 30)) 30 false,so 33 (.pick (T 30) (.const (.bool true)) (T 32))])
 (.cond (T 33)
 (.seq (.reg [so 2 (.mv (.const (.pointer none))),so 3 (.mv (C 3))])
 .ret)
 .skip))
 (.seq (.reg [sm 35 0,sm 36 4,so 37 (.bin .shr (T 36) (.const (.int .u64 (10)))),so 38 (.bin .add (T 37) (C 4)),so 39 (.call true Zdb [(T 35),(T 38)]),sm 34 39,so 40 (.ext (T 34) 0),so 41 (.ext (T 34) 1),sm 8 40,sm 9 41])
 (.seq (.seq (.reg [sm 42 9,so 43 (.bin .neq (T 42) (C 0))])
 (.cond (T 43)
 (.seq (.reg [sm 44 9,so 2 (.mv (.const (.pointer none))),sm 3 44])
 .ret)
 .skip))
 (.seq (.reg [sm 46 0,sm 47 8,sm 48 6,sm 49 7,so 50 (.bin .add (T 48) (T 49)),so 51 (.call true ZcX [(T 46),(T 47),(T 50)]),sm 45 51,so 52 (.ext (T 45) 0),so 53 (.ext (T 45) 1),sm 10 52,sm 9 53])
 (.seq (.seq (.reg [sm 54 9,so 55 (.bin .neq (T 54) (C 0))])
 (.cond (T 55)
 (.seq (.reg [sm 56 9,so 2 (.mv (.const (.pointer none))),sm 3 56])
 .ret)
 .skip))
 (.seq (.reg [sm 57 10,sm 58 6,so 59 (.sl none (T 57) none (some (T 58))),sm 60 10,sm 61 6,so 62 (.sl none (T 60) (some (T 61)) none),so 63 (.call true Zhg [(T 59),(T 62)]),so 64 (.ext (T 63) 0),so 65 (.ext (T 63) 1),sm 2 64,sm 3 65])
 .ret))))))))))
theorem Zfr:Zaj Tryz.prog 66 (Tryz.f59.body.getD .skip)=ZcD:=by kernel_rfl
theorem Zfs:Zaf Tryz.prog Tryz.f59=some [.tmp 2,.tmp 3]:=by kernel_rfl
def ZgH:SCode :=
 (.seq (.reg [so 2 (.mv (C 0))])
 (.seq (.reg [sm 3 0,so 4 (.nilc (T 3)),so 5 (.faddr 0 (T 4)),so 6 (.load none (T 5)),so 7 (.len false (T 6)),so 8 (.bin .mul (T 7) (C 8)),sm 9 0,so 10 (.nilc (T 9)),so 11 (.faddr 1 (T 10)),so 12 (.load none (T 11)),so 13 (.bin .sub (T 8) (T 12)),sm 2 13])
 .ret))
theorem Zls:Zaj Tryz.prog 14 (Tryz.f96.body.getD .skip)=ZgH:=by kernel_rfl
theorem Zlt:Zaf Tryz.prog Tryz.f96=some [.tmp 2]:=by kernel_rfl
def Zhj:SCode :=
 (.seq (.reg [so 2 (.mv (C 0))])
 (.seq (.reg [sm 4 0,so 5 (.nilc (T 4)),so 6 (.faddr 0 (T 5)),so 7 (.load none (T 6)),sm 8 0,so 9 (.nilc (T 8)),so 10 (.faddr 1 (T 9)),so 11 (.load none (T 10)),so 12 (.bin .quo (T 11) (C 8)),so 13 (.iaddr none (T 7) (T 12)),so 14 (.load none (T 13)),so 15 (.ci .i64 (T 14)),sm 16 0,so 17 (.nilc (T 16)),so 18 (.faddr 1 (T 17)),so 19 (.load none (T 18)),so 20 (.bin .rem (T 19) (C 8)),so 21 (.bin .shr (T 15) (T 20)),so 22 (.bin .and (T 21) (C 1)),sm 3 22])
 (.seq (.reg [sm 23 0,so 24 (.nilc (T 23)),so 25 (.faddr 1 (T 24)),so 26 (.load none (T 25)),so 27 (.bin .add (T 26) (C 1)),so 28 (.nilc (T 23)),so 29 (.faddr 1 (T 28)),sn (.store none (T 29) (T 27))])
 (.seq (.reg [sm 30 3,sm 2 30])
 .ret))))
theorem Zmh:Zaj Tryz.prog 31 (Tryz.f97.body.getD .skip)=Zhj:=by kernel_rfl
theorem Zmi:Zaf Tryz.prog Tryz.f97=some [.tmp 2]:=by kernel_rfl
def ZfY:SCode :=
 (.reg [sm 2 0,sm 3 0,so 4 (.nilc (T 3)),so 5 (.faddr 1 (T 4)),so 6 (.load none (T 5)),so 7 (.bin .add (T 6) (C 8)),so 8 (.bin .sub (T 7) (C 1)),so 9 (.bin .quo (T 8) (C 8)),so 10 (.bin .mul (T 9) (C 8)),so 11 (.nilc (T 2)),so 12 (.faddr 1 (T 11)),sn (.store none (T 12) (T 10))])
theorem Zku:Zaj Tryz.prog 13 (Tryz.f98.body.getD .skip)=ZfY:=by kernel_rfl
theorem Zkv:Zaf Tryz.prog Tryz.f98=some []:=by kernel_rfl
def Zdr:SCode :=
 (.seq (.reg [so 4 (.mv (.const (.slice none 0 0))),so 5 (.mv (.const (.bool false)))])
 (.seq (.reg [sm 7 0,so 8 (.call true Zdo [(T 7)])])
 (.seq (.seq (.reg [sm 9 1,so 10 (.bin .lss (T 9) (C 0)),sm 11 10,sg 12 (.mv (T 1)) 11 false,sg 13 (.mv (T 0)) 11 false,sg 14 (.call true ZcB [(T 13)]) 11 false,sg 15 (.bin .quo (T 14) (C 8)) 11 false,sg 16 (.bin .gtr (T 12) (T 15)) 11 false,so 17 (.pick (T 11) (.const (.bool true)) (T 16))])
 (.cond (T 17)
 (.seq (.reg [so 4 (.mv (.const (.slice none 0 0))),so 5 (.mv (.const (.bool false)))])
 .ret)
 .skip))
 (.seq (.reg [sm 18 0,so 19 (.nilc (T 18)),so 20 (.faddr 1 (T 19)),so 21 (.load none (T 20)),so 22 (.bin .quo (T 21) (C 8)),sm 6 22])
 (.seq (.reg [sm 23 0,so 24 (.nilc (T 23)),so 25 (.faddr 1 (T 24)),so 26 (.load none (T 25)),sm 27 1,so 28 (.bin .mul (T 27) (C 8)),so 29 (.bin .add (T 26) (T 28)),so 30 (.nilc (T 23)),so 31 (.faddr 1 (T 30)),sn (.store none (T 31) (T 29))])
 (.seq (.reg [sm 32 0,so 33 (.nilc (T 32)),so 34 (.faddr 0 (T 33)),so 35 (.load none (T 34)),sm 36 6,sm 37 6,sm 38 1,so 39 (.bin .add (T 37) (T 38)),so 40 (.sl none (T 35) (some (T 36)) (some (T 39))),so 41 (.call true ZdK [(T 40)]),sm 4 41,so 5 (.mv (.const (.bool true)))])
 .ret))))))
theorem ZfZ:Zaj Tryz.prog 42 (Tryz.f99.body.getD .skip)=Zdr:=by kernel_rfl
theorem Zf0:Zaf Tryz.prog Tryz.f99=some [.tmp 4,.tmp 5]:=by kernel_rfl
def Zd0:SCode :=
 (.seq (.reg [so 2 (.mv (C 0))])
 (.seq (.reg [sm 3 0,so 4 (.nilc (T 3)),so 5 (.faddr 2 (T 4)),so 6 (.load none (T 5)),sm 7 0,so 8 (.nilc (T 7)),so 9 (.faddr 1 (T 8)),so 10 (.load none (T 9)),so 11 (.len false (T 10)),so 12 (.bin .sub (T 6) (T 11)),sm 2 12])
 .ret))
theorem ZhY:Zaj Tryz.prog 13 (Tryz.f100.body.getD .skip)=Zd0:=by kernel_rfl
theorem ZhZ:Zaf Tryz.prog Tryz.f100=some [.tmp 2]:=by kernel_rfl
def Zkd:SCode :=
 (.seq (.reg [so 2 (.mv (.const (.pointer none))),so 3 (.mv (C 0))])
 (.seq (.seq (.reg [sm 8 0,so 9 (.call true Zgq [(T 8)]),sm 4 9])
 (.seq (.reg [sm 10 4,so 11 (.bin .neq (T 10) (C 0))])
 (.cond (T 11)
 (.seq (.reg [sm 12 4,so 2 (.mv (.const (.pointer none))),sm 3 12])
 .ret)
 .skip)))
 (.seq (.reg [sm 13 0,so 14 (.call true Ze2 [(T 13)]),sm 15 0,so 16 (.call true Zgt [(T 15)]),so 17 (.build [(.int .i64 (0)),(.int .i64 (0)),(.int .i64 (0)),(.int .i64 (0)),(.int .i64 (0)),(.int .i64 (0)),(.int .i64 (0)),(.int .i64 (0)),(.int .i64 (0)),(.int .i64 (0)),(.int .i64 (0)),(.int .i64 (0)),(.int .i64 (0)),(.int .i64 (0)),(.int .i64 (0)),(.int .i64 (0)),(.slice none 0 0),(.slice none 0 0),(.slice none 0 0),(.slice none 0 0),(.slice none 0 0),(.slice none 0 0),(.slice none 0 0),(.slice none 0 0),(.slice none 0 0),(.slice none 0 0),(.slice none 0 0),(.slice none 0 0),(.slice none 0 0),(.slice none 0 0),(.slice none 0 0),(.slice none 0 0),(.int .i64 (0))] [(0,16,(T 14)),(32,1,(T 16))]),so 18 (.box (T 17)),sm 5 18])
 (.seq (.seq (.reg [sm 19 0,so 20 (.len false (T 19)),so 21 (.mv (C 0))])
 (.block 0
 (.loop
 (.seq (.reg [so 22 (.bin .lss (T 21) (T 20))])
 (.seq (.cond (T 22)
 .skip
 (.exit 0))
 (.seq (.block 1
 (.seq (.reg [sm 23 21,so 24 (.iaddr none (T 19) (T 21)),so 25 (.load none (T 24)),sm 6 23,sm 7 25])
 (.seq (.reg [sm 26 7,so 27 (.bin .gtr (T 26) (C 0))])
 (.cond (T 27)
 (.reg [sm 28 5,sm 29 7,sm 30 5,sm 31 7,so 32 (.nilc (T 30)),so 33 (.faddr 16 (T 32)),so 34 (.iaddrA 16 none (T 33) (T 31)),so 35 (.load none (T 34)),sm 36 6,so 37 (.bslice none [(T 36)]),so 38 (.app none 8 (T 35) (T 37)),so 39 (.nilc (T 28)),so 40 (.faddr 16 (T 39)),so 41 (.iaddrA 16 none (T 40) (T 29)),sn (.store none (T 41) (T 38))])
 .skip))))
 (.reg [so 42 (.bin .add (T 21) (C 1)),sm 21 42])))))))
 (.seq (.reg [sm 43 5,sm 2 43,so 3 (.mv (C 0))])
 .ret)))))
theorem Zps:Zaj Tryz.prog 44 (Tryz.f101.body.getD .skip)=Zkd:=by kernel_rfl
theorem Zpt:Zaf Tryz.prog Tryz.f101=some [.tmp 2,.tmp 3]:=by kernel_rfl
def ZcL:SCode :=
 (.seq (.reg [so 2 (.mv (.const (.slice none 0 0)))])
 (.seq (.reg [so 3 (.mv (C 0))])
 (.seq (.seq (.reg [sm 9 0,so 10 (.len false (T 9)),so 11 (.mv (C 0))])
 (.block 0
 (.loop
 (.seq (.reg [so 12 (.bin .lss (T 11) (T 10))])
 (.seq (.cond (T 12)
 .skip
 (.exit 0))
 (.seq (.block 1
 (.seq (.reg [so 13 (.iaddr none (T 9) (T 11)),so 14 (.load none (T 13)),sm 5 14])
 (.seq (.reg [sm 15 3,sm 16 5,so 17 (.len false (T 16)),so 18 (.bin .add (T 15) (T 17)),sm 3 18])
 (.seq (.reg [sm 19 3,so 20 (.bin .lss (T 19) (C 0))])
 (.cond (T 20)
 (.reg [so 21 (.no),sn (.no)])
 .skip)))))
 (.reg [so 22 (.bin .add (T 11) (C 1)),sm 11 22])))))))
 (.seq (.reg [sm 23 3,so 24 (.call true ZfV [(.const (.slice none 0 0)),(T 23)]),sm 6 24])
 (.seq (.seq (.reg [sm 25 0,so 26 (.len false (T 25)),so 27 (.mv (C 0))])
 (.block 2
 (.loop
 (.seq (.reg [so 28 (.bin .lss (T 27) (T 26))])
 (.seq (.cond (T 28)
 .skip
 (.exit 2))
 (.seq (.block 3
 (.seq (.reg [so 29 (.iaddr none (T 25) (T 27)),so 30 (.load none (T 29)),sm 8 30])
 (.reg [sm 31 6,sm 32 8,so 33 (.app none 8 (T 31) (T 32)),sm 6 33])))
 (.reg [so 34 (.bin .add (T 27) (C 1)),sm 27 34])))))))
 (.seq (.reg [sm 35 6,sm 2 35])
 .ret))))))
theorem ZeR:Zaj Tryz.prog 36 (Tryz.f87.body.getD .skip)=ZcL:=by kernel_rfl
theorem ZeS:Zaf Tryz.prog Tryz.f87=some [.tmp 2]:=by kernel_rfl
def ZeT:SCode :=
 (.seq (.reg [so 4 (.mv (.const (.slice none 0 0)))])
 (.seq (.seq (.reg [sm 9 1,so 10 (.bin .lss (T 9) (C 0))])
 (.cond (T 10)
 (.reg [so 11 (.no),sn (.no)])
 .skip))
 (.seq (.reg [sm 13 0,so 14 (.len false (T 13)),so 15 (.ci .u64 (T 14)),sm 16 1,so 17 (.ci .u64 (T 16)),so 18 (.call true Zqa [(T 15),(T 17)]),sm 12 18,so 19 (.ext (T 12) 0),so 20 (.ext (T 12) 1),sm 5 19,sm 6 20])
 (.seq (.seq (.reg [sm 21 5,so 22 (.bin .gtr (T 21) (.const (.int .u64 (0)))),sm 23 22,sg 24 (.mv (T 6)) 23 false,sg 25 (.bin .gtr (T 24) (.const (.int .u64 (9223372036854775807)))) 23 false,so 26 (.pick (T 23) (.const (.bool true)) (T 25))])
 (.cond (T 26)
 (.reg [so 27 (.no),sn (.no)])
 .skip))
 (.seq (.reg [sm 28 6,so 29 (.ci .i64 (T 28)),so 30 (.mks none 8 [(.int .i64 (0))] (T 29) (T 29)),sm 7 30])
 (.seq (.reg [sm 31 7,sm 32 0,so 33 (.copy (T 31) (T 32)),sm 8 33])
 (.seq (.block 0
 (.loop
 (.seq (.seq (.reg [sm 34 8,sm 35 7,so 36 (.len false (T 35)),so 37 (.bin .lss (T 34) (T 36))])
 (.cond (T 37)
 .skip
 (.exit 0)))
 (.block 1
 (.reg [sm 38 8,sm 39 7,sm 40 8,so 41 (.sl none (T 39) (some (T 40)) none),sm 42 7,sm 43 8,so 44 (.sl none (T 42) none (some (T 43))),so 45 (.copy (T 41) (T 44)),so 46 (.bin .add (T 38) (T 45)),sm 8 46])))))
 (.seq (.reg [sm 47 7,sm 4 47])
 .ret))))))))
theorem Zi5:Zaj Tryz.prog 48 (Tryz.f88.body.getD .skip)=ZeT:=by kernel_rfl
theorem Zi6:Zaf Tryz.prog Tryz.f88=some [.tmp 4]:=by kernel_rfl
def Zix:SCode :=
 (.seq (.reg [so 4 (.mv (C 0)),so 5 (.mv (C 0))])
 (.seq (.reg [so 6 (.mv (C 0))])
 (.seq (.seq (.reg [so 10 (.mv (C 0))])
 (.block 0
 (.loop
 (.seq (.reg [so 11 (.bin .lss (T 10) (C 15))])
 (.seq (.cond (T 11)
 .skip
 (.exit 0))
 (.seq (.block 1
 (.seq (.reg [sm 12 10,sm 7 12])
 (.seq (.seq (.reg [sm 13 1,so 14 (.call true ZcB [(T 13)]),so 15 (.bin .eql (T 14) (C 0))])
 (.cond (T 15)
 (.seq (.reg [so 4 (.mv (C 0)),so 5 (.mv (C 2))])
 .ret)
 .skip))
 (.seq (.reg [sm 16 6,so 17 (.bin .shl (T 16) (.const (.int .u64 (1)))),sm 18 1,so 19 (.call true ZeC [(T 18)]),so 20 (.bin .or (T 17) (T 19)),sm 6 20])
 (.seq (.reg [sm 21 7,so 22 (.bin .add (T 21) (C 1)),sm 8 22])
 (.seq (.seq (.reg [sm 23 0,sm 24 6,sm 25 8,so 26 (.call true Zgr [(T 23),(T 24),(T 25)]),so 27 (.un .not (T 26))])
 (.cond (T 27)
 (.exit 0)
 .skip))
 (.seq (.reg [sm 28 6,sm 29 0,sm 30 8,so 31 (.nilc (T 29)),so 32 (.faddr 0 (T 31)),so 33 (.iaddrA 16 none (T 32) (T 30)),so 34 (.load none (T 33)),so 35 (.bin .sub (T 28) (T 34)),sm 9 35])
 (.seq (.reg [sm 36 9,sm 37 0,sm 38 8,so 39 (.nilc (T 37)),so 40 (.faddr 16 (T 39)),so 41 (.iaddrA 16 none (T 40) (T 38)),so 42 (.load none (T 41)),so 43 (.len false (T 42)),so 44 (.bin .lss (T 36) (T 43))])
 (.cond (T 44)
 (.seq (.reg [sm 45 0,sm 46 8,so 47 (.nilc (T 45)),so 48 (.faddr 16 (T 47)),so 49 (.iaddrA 16 none (T 48) (T 46)),so 50 (.load none (T 49)),sm 51 9,so 52 (.iaddr none (T 50) (T 51)),so 53 (.load none (T 52)),sm 4 53,so 5 (.mv (C 0))])
 .ret)
 .skip)))))))))
 (.reg [so 54 (.bin .add (T 10) (C 1)),sm 10 54])))))))
 (.seq (.reg [so 4 (.mv (C 0)),so 5 (.mv (C 3))])
 .ret))))
theorem Znr:Zaj Tryz.prog 55 (Tryz.f102.body.getD .skip)=Zix:=by kernel_rfl
theorem Zns:Zaf Tryz.prog Tryz.f102=some [.tmp 4,.tmp 5]:=by kernel_rfl
def ZbS:SCode :=
 (.seq (.reg [so 4 (.mv (C 0))])
 (.seq (.seq (.reg [sm 5 0,so 6 (.call true ZbB [(T 5)]),so 7 (.bin .lss (T 6) (C 1))])
 (.cond (T 7)
 (.seq (.reg [so 4 (.mv (C 4))])
 .ret)
 .skip))
 (.seq (.reg [sm 8 0,sm 9 0,so 10 (.nilc (T 9)),so 11 (.faddr 1 (T 10)),so 12 (.load none (T 11)),sm 13 1,so 14 (.bslice none [(T 13)]),so 15 (.app none 1 (T 12) (T 14)),so 16 (.nilc (T 8)),so 17 (.faddr 1 (T 16)),sn (.store none (T 17) (T 15))])
 (.seq (.reg [so 4 (.mv (C 0))])
 .ret))))
theorem ZcZ:Zaj Tryz.prog 18 (Tryz.f103.body.getD .skip)=ZbS:=by kernel_rfl
theorem Zc0:Zaf Tryz.prog Tryz.f103=some [.tmp 4]:=by kernel_rfl
def ZaM:SCode :=
 (.seq (.reg [so 6 (.mv (C 0))])
 (.seq (.reg [sm 11 0,sm 12 1,so 13 (.call true Zc9 [(T 11),(T 12)]),sm 10 13,so 14 (.ext (T 10) 0),so 15 (.ext (T 10) 1),sm 7 14,sm 8 15])
 (.seq (.seq (.reg [sm 16 8,so 17 (.bin .neq (T 16) (C 0))])
 (.cond (T 17)
 (.seq (.reg [sm 18 8,sm 6 18])
 .ret)
 .skip))
 (.seq (.reg [sm 20 2,sm 21 0,so 22 (.nilc (T 21)),so 23 (.faddr 0 (T 22)),so 24 (.load none (T 23)),so 25 (.call true Zdl [(T 20),(T 24)]),sm 19 25,so 26 (.ext (T 19) 0),so 27 (.ext (T 19) 1),sm 1 26,sm 8 27])
 (.seq (.seq (.reg [sm 28 8,so 29 (.bin .neq (T 28) (C 0))])
 (.cond (T 29)
 (.seq (.reg [sm 30 8,sm 6 30])
 .ret)
 .skip))
 (.seq (.reg [sm 32 0,sm 33 1,so 34 (.call true ZcK [(T 32),(T 33)]),sm 31 34,so 35 (.ext (T 31) 0),so 36 (.ext (T 31) 1),sm 9 35,sm 8 36])
 (.seq (.seq (.reg [sm 37 8,so 38 (.bin .neq (T 37) (C 0))])
 (.cond (T 38)
 (.seq (.reg [sm 39 8,sm 6 39])
 .ret)
 .skip))
 (.seq (.seq (.reg [sm 40 9,sm 41 0,so 42 (.nilc (T 41)),so 43 (.faddr 1 (T 42)),so 44 (.load none (T 43)),so 45 (.len false (T 44)),so 46 (.bin .gtr (T 40) (T 45))])
 (.cond (T 46)
 (.seq (.reg [so 6 (.mv (C 3))])
 .ret)
 .skip))
 (.seq (.seq (.reg [sm 47 7,sm 48 0,so 49 (.call true ZbB [(T 48)]),so 50 (.bin .gtr (T 47) (T 49))])
 (.cond (T 50)
 (.seq (.reg [so 6 (.mv (C 4))])
 .ret)
 .skip))
 (.seq (.seq (.reg [sm 51 7,so 52 (.mv (C 0))])
 (.block 0
 (.loop
 (.seq (.reg [so 53 (.bin .lss (T 52) (T 51))])
 (.seq (.cond (T 53)
 .skip
 (.exit 0))
 (.seq (.block 1
 (.reg [sm 54 0,sm 55 0,so 56 (.nilc (T 55)),so 57 (.faddr 1 (T 56)),so 58 (.load none (T 57)),sm 59 0,so 60 (.nilc (T 59)),so 61 (.faddr 1 (T 60)),so 62 (.load none (T 61)),sm 63 0,so 64 (.nilc (T 63)),so 65 (.faddr 1 (T 64)),so 66 (.load none (T 65)),so 67 (.len false (T 66)),sm 68 9,so 69 (.bin .sub (T 67) (T 68)),so 70 (.iaddr none (T 62) (T 69)),so 71 (.load none (T 70)),so 72 (.bslice none [(T 71)]),so 73 (.app none 1 (T 58) (T 72)),so 74 (.nilc (T 54)),so 75 (.faddr 1 (T 74)),sn (.store none (T 75) (T 73))]))
 (.reg [so 76 (.bin .add (T 52) (C 1)),sm 52 76])))))))
 (.seq (.reg [so 6 (.mv (C 0))])
 .ret)))))))))))
theorem ZaX:Zaj Tryz.prog 77 (Tryz.f104.body.getD .skip)=ZaM:=by kernel_rfl
theorem ZaY:Zaf Tryz.prog Tryz.f104=some [.tmp 6]:=by kernel_rfl
def Zdd:SCode :=
 (.seq (.reg [so 4 (.mv (.const (.pointer none))),so 5 (.mv (C 0))])
 (.seq (.reg [so 10 (.mks none 8 [(.int .i64 (0))] (C 19) (C 19)),sm 6 10])
 (.seq (.seq (.reg [sm 11 1,so 12 (.mv (C 0))])
 (.block 0
 (.loop
 (.seq (.reg [so 13 (.bin .lss (T 12) (T 11))])
 (.seq (.cond (T 13)
 .skip
 (.exit 0))
 (.seq (.block 1
 (.seq (.reg [sm 14 12,sm 7 14])
 (.seq (.reg [sm 16 0,so 17 (.nilc (T 16)),so 18 (.faddr 0 (T 17)),so 19 (.load none (T 18)),so 20 (.call true ZaV [(T 19),(C 3)]),sm 15 20,so 21 (.ext (T 15) 0),so 22 (.ext (T 15) 1),sm 8 21,sm 9 22])
 (.seq (.seq (.reg [sm 23 9,so 24 (.un .not (T 23))])
 (.cond (T 24)
 (.seq (.reg [so 4 (.mv (.const (.pointer none))),so 5 (.mv (C 2))])
 .ret)
 .skip))
 (.reg [sm 25 6,sm 26 7,so 27 (.iaddrA 19 none (.global 1) (T 26)),so 28 (.load none (T 27)),sm 29 8,so 30 (.iaddr none (T 25) (T 28)),sn (.store none (T 30) (T 29))])))))
 (.reg [so 31 (.bin .add (T 12) (C 1)),sm 12 31])))))))
 (.seq (.seq (.reg [sm 32 6,so 33 (.call true ZfS [(T 32)]),so 34 (.un .not (T 33))])
 (.cond (T 34)
 (.seq (.reg [so 4 (.mv (.const (.pointer none))),so 5 (.mv (C 3))])
 .ret)
 .skip))
 (.seq (.reg [sm 35 6,so 36 (.call true ZbY [(T 35)]),so 37 (.ext (T 36) 0),so 38 (.ext (T 36) 1),sm 4 37,sm 5 38])
 .ret)))))
theorem ZgW:Zaj Tryz.prog 39 (Tryz.f105.body.getD .skip)=Zdd:=by kernel_rfl
theorem ZgX:Zaf Tryz.prog Tryz.f105=some [.tmp 4,.tmp 5]:=by kernel_rfl
def Zc1:SCode :=
 (.seq (.reg [so 6 (.mv (.const (.slice none 0 0))),so 7 (.mv (C 0))])
 (.seq (.reg [so 8 (.mv (.const (.slice none 0 0)))])
 (.seq (.block 0
 (.loop
 (.seq (.seq (.reg [sm 14 8,so 15 (.len false (T 14)),sm 16 2,so 17 (.bin .lss (T 15) (T 16))])
 (.cond (T 17)
 .skip
 (.exit 0)))
 (.block 1
 (.seq (.reg [sm 19 1,sm 20 0,so 21 (.nilc (T 20)),so 22 (.faddr 0 (T 21)),so 23 (.load none (T 22)),so 24 (.call true Zdl [(T 19),(T 23)]),sm 18 24,so 25 (.ext (T 18) 0),so 26 (.ext (T 18) 1),sm 9 25,sm 10 26])
 (.seq (.seq (.reg [sm 27 10,so 28 (.bin .neq (T 27) (C 0))])
 (.cond (T 28)
 (.seq (.reg [sm 29 10,so 6 (.mv (.const (.slice none 0 0))),sm 7 29])
 .ret)
 .skip))
 (.seq (.reg [sm 30 9,sm 11 30,so 12 (.mv (C 1)),so 13 (.mv (C 0))])
 (.seq (.seq (.reg [sm 31 9])
 (.block 2
 (.seq (.reg [so 33 (.bin .eql (T 31) (C 16)),sm 32 33])
 (.cond (T 32)
 (.seq (.seq (.reg [sm 34 8,so 35 (.len false (T 34)),so 36 (.bin .eql (T 35) (C 0))])
 (.cond (T 36)
 (.seq (.reg [so 6 (.mv (.const (.slice none 0 0))),so 7 (.mv (C 3))])
 .ret)
 .skip))
 (.reg [sm 37 8,sm 38 8,so 39 (.len false (T 38)),so 40 (.bin .sub (T 39) (C 1)),so 41 (.iaddr none (T 37) (T 40)),so 42 (.load none (T 41)),sm 11 42,so 12 (.mv (C 3)),so 13 (.mv (C 2))]))
 (.seq (.reg [so 44 (.bin .eql (T 31) (C 17)),sm 43 44])
 (.cond (T 43)
 (.reg [so 11 (.mv (C 0)),so 12 (.mv (C 3)),so 13 (.mv (C 3))])
 (.seq (.reg [so 46 (.bin .eql (T 31) (C 18)),sm 45 46])
 (.cond (T 45)
 (.reg [so 11 (.mv (C 0)),so 12 (.mv (C 11)),so 13 (.mv (C 7))])
 .skip))))))))
 (.seq (.seq (.reg [sm 48 0,sm 49 12,sm 50 13,so 51 (.call true ZaU [(T 48),(T 49),(T 50)]),sm 47 51,so 52 (.ext (T 47) 0),so 53 (.ext (T 47) 1),sm 12 52,sm 10 53])
 (.seq (.reg [sm 54 10,so 55 (.bin .neq (T 54) (C 0))])
 (.cond (T 55)
 (.seq (.reg [sm 56 10,so 6 (.mv (.const (.slice none 0 0))),sm 7 56])
 .ret)
 .skip)))
 (.seq (.seq (.reg [sm 57 12,sm 58 2,sm 59 8,so 60 (.len false (T 59)),so 61 (.bin .sub (T 58) (T 60)),so 62 (.bin .gtr (T 57) (T 61))])
 (.cond (T 62)
 (.seq (.reg [so 6 (.mv (.const (.slice none 0 0))),so 7 (.mv (C 3))])
 .ret)
 .skip))
 (.reg [sm 63 8,sm 64 11,so 65 (.bsl none [(T 64)]),sm 66 12,so 67 (.call true Zaw [(T 65),(T 66)]),so 68 (.app none 8 (T 63) (T 67)),sm 8 68])))))))))))
 (.seq (.reg [sm 69 8,sm 6 69,so 7 (.mv (C 0))])
 .ret))))
theorem Zgh:Zaj Tryz.prog 70 (Tryz.f106.body.getD .skip)=Zc1:=by kernel_rfl
theorem Zgi:Zaf Tryz.prog Tryz.f106=some [.tmp 6,.tmp 7]:=by kernel_rfl
def Zhk:SCode :=
 (.seq (.reg [so 4 (.mv (.const (.pointer none))),so 5 (.mv (C 0))])
 (.seq (.seq (.reg [sm 7 0,so 8 (.iaddr none (T 7) (C 256)),so 9 (.load none (T 8)),so 10 (.bin .eql (T 9) (C 0)),sm 11 10,sg 12 (.mv (T 0)) 11 false,sg 13 (.call true ZfS [(T 12)]) 11 false,sg 14 (.un .not (T 13)) 11 false,so 15 (.pick (T 11) (.const (.bool true)) (T 14)),sm 16 15,sg 17 (.mv (T 1)) 16 false,sg 18 (.call true ZfU [(T 17)]) 16 false,sg 19 (.un .not (T 18)) 16 false,so 20 (.pick (T 16) (.const (.bool true)) (T 19))])
 (.cond (T 20)
 (.seq (.reg [so 4 (.mv (.const (.pointer none))),so 5 (.mv (C 3))])
 .ret)
 .skip))
 (.seq (.reg [so 21 (.build [(.pointer none),(.pointer none)] []),so 22 (.box (T 21)),sm 6 22])
 (.seq (.reg [sm 24 6,sm 25 0,so 26 (.call true ZbY [(T 25)]),sm 23 26,so 27 (.ext (T 23) 0),so 28 (.ext (T 23) 1),so 29 (.nilc (T 24)),so 30 (.faddr 0 (T 29)),sn (.store none (T 30) (T 27))])
 (.seq (.reg [sm 32 6,sm 33 1,so 34 (.call true ZbY [(T 33)]),sm 31 34,so 35 (.ext (T 31) 0),so 36 (.ext (T 31) 1),so 37 (.nilc (T 32)),so 38 (.faddr 1 (T 37)),sn (.store none (T 38) (T 35))])
 (.seq (.reg [sm 39 6,sm 4 39,so 5 (.mv (C 0))])
 .ret))))))
theorem Zmj:Zaj Tryz.prog 40 (Tryz.f107.body.getD .skip)=Zhk:=by kernel_rfl
theorem Zmk:Zaf Tryz.prog Tryz.f107=some [.tmp 4,.tmp 5]:=by kernel_rfl
def Zm2:SCode :=
 (.seq (.reg [so 2 (.mv (C 0))])
 (.seq (.seq (.reg [sm 5 0,so 6 (.len false (T 5)),so 7 (.bin .gtr (T 6) (C 320))])
 (.cond (T 7)
 (.seq (.reg [so 2 (.mv (C 4))])
 .ret)
 .skip))
 (.seq (.seq (.reg [sm 8 0,so 9 (.len false (T 8)),so 10 (.mv (C 0))])
 (.block 0
 (.loop
 (.seq (.reg [so 11 (.bin .lss (T 10) (T 9))])
 (.seq (.cond (T 11)
 .skip
 (.exit 0))
 (.seq (.block 1
 (.seq (.reg [so 12 (.iaddr none (T 8) (T 10)),so 13 (.load none (T 12)),sm 4 13])
 (.seq (.reg [sm 14 4,so 15 (.bin .lss (T 14) (C 0)),sm 16 15,sg 17 (.mv (T 4)) 16 false,sg 18 (.bin .gtr (T 17) (C 15)) 16 false,so 19 (.pick (T 16) (.const (.bool true)) (T 18))])
 (.cond (T 19)
 (.seq (.reg [so 2 (.mv (C 1))])
 .ret)
 .skip))))
 (.reg [so 20 (.bin .add (T 10) (C 1)),sm 10 20])))))))
 (.seq (.seq (.reg [sm 21 0,so 22 (.call true Zgt [(T 21)]),so 23 (.bin .gtr (T 22) (C 32768))])
 (.cond (T 23)
 (.seq (.reg [so 2 (.mv (C 3))])
 .ret)
 .skip))
 (.seq (.reg [so 2 (.mv (C 0))])
 .ret)))))
theorem Zso:Zaj Tryz.prog 24 (Tryz.f132.body.getD .skip)=Zm2:=by kernel_rfl
theorem Zsp:Zaf Tryz.prog Tryz.f132=some [.tmp 2]:=by kernel_rfl
def Ziy:SCode :=
 (.seq (.reg [so 2 (.alloc (List.replicate 16 (.int .i64 (0))))])
 (.seq (.reg [so 3 (.alloc (List.replicate 16 (.int .i64 (0))))])
 (.seq (.seq (.reg [sm 8 0,so 9 (.len false (T 8)),so 10 (.mv (C 0))])
 (.block 0
 (.loop
 (.seq (.reg [so 11 (.bin .lss (T 10) (T 9))])
 (.seq (.cond (T 11)
 .skip
 (.exit 0))
 (.seq (.block 1
 (.seq (.reg [so 12 (.iaddr none (T 8) (T 10)),so 13 (.load none (T 12)),sm 5 13])
 (.reg [sm 14 5,so 15 (.iaddrA 16 none (T 3) (T 14)),so 16 (.load none (T 15)),so 17 (.bin .add (T 16) (C 1)),so 18 (.iaddrA 16 none (T 3) (T 14)),sn (.store none (T 18) (T 17))])))
 (.reg [so 19 (.bin .add (T 10) (C 1)),sm 10 19])))))))
 (.seq (.reg [so 20 (.iaddrA 16 none (T 3) (C 0)),sn (.store none (T 20) (C 0))])
 (.seq (.reg [so 6 (.alloc (List.replicate 16 (.int .i64 (0))))])
 (.seq (.seq (.reg [so 21 (.mv (C 0))])
 (.block 2
 (.loop
 (.seq (.reg [so 22 (.bin .lss (T 21) (C 15))])
 (.seq (.cond (T 22)
 .skip
 (.exit 2))
 (.seq (.block 3
 (.seq (.reg [sm 23 21,sm 7 23])
 (.reg [sm 24 7,so 25 (.bin .add (T 24) (C 1)),sm 26 7,so 27 (.iaddrA 16 none (T 6) (T 26)),so 28 (.load none (T 27)),sm 29 7,so 30 (.iaddrA 16 none (T 3) (T 29)),so 31 (.load none (T 30)),so 32 (.bin .add (T 28) (T 31)),so 33 (.bin .shl (T 32) (.const (.int .u64 (1)))),so 34 (.iaddrA 16 none (T 6) (T 25)),sn (.store none (T 34) (T 33))])))
 (.reg [so 35 (.bin .add (T 21) (C 1)),sm 21 35])))))))
 (.seq (.reg [so 36 (.load (some 16) (T 6)),sn (.store (some 16) (T 2) (T 36))])
 .ret)))))))
theorem Znt:Zaj Tryz.prog 37 (Tryz.f133.body.getD .skip)=Ziy:=by kernel_rfl
theorem Znu:Zaf Tryz.prog Tryz.f133=some [.cell 2 (some 16)]:=by kernel_rfl
def Zm3:SCode :=
 (.seq (.reg [so 2 (.mv (C 0))])
 (.seq (.reg [so 3 (.mv (C 0))])
 (.seq (.seq (.reg [sm 6 0,so 7 (.len false (T 6)),so 8 (.mv (C 0))])
 (.block 0
 (.loop
 (.seq (.reg [so 9 (.bin .lss (T 8) (T 7))])
 (.seq (.cond (T 9)
 .skip
 (.exit 0))
 (.seq (.block 1
 (.seq (.reg [so 10 (.iaddr none (T 6) (T 8)),so 11 (.load none (T 10)),sm 5 11])
 (.seq (.reg [sm 12 5,so 13 (.bin .gtr (T 12) (C 0))])
 (.cond (T 13)
 (.reg [sm 14 3,sm 15 5,so 16 (.bin .shr (C 32768) (T 15)),so 17 (.bin .add (T 14) (T 16)),sm 3 17])
 .skip))))
 (.reg [so 18 (.bin .add (T 8) (C 1)),sm 8 18])))))))
 (.seq (.reg [sm 19 3,sm 2 19])
 .ret))))
theorem Zsq:Zaj Tryz.prog 20 (Tryz.f134.body.getD .skip)=Zm3:=by kernel_rfl
theorem Zsr:Zaf Tryz.prog Tryz.f134=some [.tmp 2]:=by kernel_rfl
def Zf1:SCode :=
 (.seq (.reg [so 4 (.mv (.const (.slice none 0 0)))])
 (.seq (.seq (.reg [sm 5 1,so 6 (.bin .lss (T 5) (C 0))])
 (.cond (T 6)
 (.reg [so 7 (.no),sn (.no)])
 .skip))
 (.seq (.seq (.reg [sm 8 1,sm 9 0,so 10 (.capn (T 9)),sm 11 0,so 12 (.len false (T 11)),so 13 (.bin .sub (T 10) (T 12)),so 14 (.bin .sub (T 8) (T 13)),sm 1 14])
 (.seq (.reg [sm 15 1,so 16 (.bin .gtr (T 15) (C 0))])
 (.cond (T 16)
 (.reg [sm 17 0,sm 18 0,so 19 (.capn (T 18)),so 20 (.sl none (T 17) none (some (T 19))),sm 21 1,so 22 (.appz none 8 [(.int .i64 (0))] (T 20) (T 21)),sm 23 0,so 24 (.len false (T 23)),so 25 (.sl none (T 22) none (some (T 24))),sm 0 25])
 .skip)))
 (.seq (.reg [sm 26 0,sm 4 26])
 .ret))))
theorem Zkw:Zaj Tryz.prog 27 (Tryz.f125.body.getD .skip)=Zf1:=by kernel_rfl
theorem Zkx:Zaf Tryz.prog Tryz.f125=some [.tmp 4]:=by kernel_rfl
def Zqc:SCode :=
 (.seq (.reg [so 4 (.mv (.const (.int .u64 (0)))),so 5 (.mv (.const (.int .u64 (0))))])
 (.seq (.cond (.const (.bool false))
 (.seq (.reg [sm 11 0,so 12 (.ci .u32 (T 11)),sm 13 1,so 14 (.ci .u32 (T 13)),so 15 (.call true Zsl [(T 12),(T 14)]),sm 10 15,so 16 (.ext (T 10) 0),so 17 (.ext (T 10) 1),sm 6 16,sm 7 17])
 (.seq (.reg [sm 18 6,so 19 (.ci .u64 (T 18)),sm 20 7,so 21 (.ci .u64 (T 20)),sm 4 19,sm 5 21])
 .ret))
 .skip)
 (.seq (.reg [sm 23 0,sm 24 1,so 25 (.call true ZmY [(T 23),(T 24)]),sm 22 25,so 26 (.ext (T 22) 0),so 27 (.ext (T 22) 1),sm 8 26,sm 9 27])
 (.seq (.reg [sm 28 8,sm 29 9,sm 4 28,sm 5 29])
 .ret))))
theorem Zx0:Zaj Tryz.prog 30 (Tryz.f126.body.getD .skip)=Zqc:=by kernel_rfl
theorem Zx1:Zaf Tryz.prog Tryz.f126=some [.tmp 4,.tmp 5]:=by kernel_rfl
def ZgI:SCode :=
 (.seq (.reg [so 6 (.mv (.const (.bool false)))])
 (.seq (.reg [sm 7 1,sm 8 2,so 9 (.bin .sub (C 15) (T 8)),so 10 (.bin .shl (T 7) (T 9)),sm 11 0,so 12 (.nilc (T 11)),so 13 (.faddr 32 (T 12)),so 14 (.load none (T 13)),so 15 (.bin .lss (T 10) (T 14)),sm 6 15])
 .ret))
theorem Zlu:Zaj Tryz.prog 16 (Tryz.f135.body.getD .skip)=ZgI:=by kernel_rfl
theorem Zlv:Zaf Tryz.prog Tryz.f135=some [.tmp 6]:=by kernel_rfl
def ZaI:SCode :=
 (.seq (.reg [so 4 (.mv (C 0)),so 5 (.mv (C 0))])
 (.seq (.block 0
 (.seq (.reg [sm 8 1,so 9 (.bin .geq (T 8) (C 29)),sm 7 9])
 (.cond (T 7)
 (.seq (.reg [so 4 (.mv (C 0)),so 5 (.mv (C 3))])
 .ret)
 (.seq (.reg [sm 11 1,so 12 (.bin .eql (T 11) (C 28)),sm 10 12])
 (.cond (T 10)
 (.seq (.reg [so 4 (.mv (C 258)),so 5 (.mv (C 0))])
 .ret)
 (.seq (.reg [sm 14 1,so 15 (.bin .lss (T 14) (C 8)),sm 13 15])
 (.cond (T 13)
 (.seq (.reg [sm 16 1,so 17 (.bin .add (C 3) (T 16)),sm 4 17,so 5 (.mv (C 0))])
 .ret)
 .skip)))))))
 (.seq (.reg [sm 18 1,so 19 (.bin .quo (T 18) (C 4)),so 20 (.bin .sub (T 19) (C 1)),sm 6 20])
 (.seq (.reg [sm 21 0,sm 22 1,so 23 (.bin .rem (T 22) (C 4)),so 24 (.bin .add (C 4) (T 23)),sm 25 6,so 26 (.bin .shl (T 24) (T 25)),so 27 (.bin .add (C 3) (T 26)),sm 28 6,so 29 (.call true ZaU [(T 21),(T 27),(T 28)]),so 30 (.ext (T 29) 0),so 31 (.ext (T 29) 1),sm 4 30,sm 5 31])
 .ret))))
theorem Za0:Zaj Tryz.prog 32 (Tryz.f136.body.getD .skip)=ZaI:=by kernel_rfl
theorem Za1:Zaf Tryz.prog Tryz.f136=some [.tmp 4,.tmp 5]:=by kernel_rfl
def ZaR:SCode :=
 (.seq (.reg [so 4 (.mv (C 0)),so 5 (.mv (C 0))])
 (.seq (.block 0
 (.seq (.reg [sm 8 1,so 9 (.bin .geq (T 8) (C 30)),sm 7 9])
 (.cond (T 7)
 (.seq (.reg [so 4 (.mv (C 0)),so 5 (.mv (C 3))])
 .ret)
 (.seq (.reg [sm 11 1,so 12 (.bin .lss (T 11) (C 4)),sm 10 12])
 (.cond (T 10)
 (.seq (.reg [sm 13 1,so 14 (.bin .add (C 1) (T 13)),sm 4 14,so 5 (.mv (C 0))])
 .ret)
 .skip)))))
 (.seq (.reg [sm 15 1,so 16 (.bin .quo (T 15) (C 2)),so 17 (.bin .sub (T 16) (C 1)),sm 6 17])
 (.seq (.reg [sm 18 0,sm 19 1,so 20 (.bin .rem (T 19) (C 2)),so 21 (.bin .add (C 2) (T 20)),sm 22 6,so 23 (.bin .shl (T 21) (T 22)),so 24 (.bin .add (C 1) (T 23)),sm 25 6,so 26 (.call true ZaU [(T 18),(T 24),(T 25)]),so 27 (.ext (T 26) 0),so 28 (.ext (T 26) 1),sm 4 27,sm 5 28])
 .ret))))
theorem Zbd:Zaj Tryz.prog 29 (Tryz.f137.body.getD .skip)=ZaR:=by kernel_rfl
theorem Zbe:Zaf Tryz.prog Tryz.f137=some [.tmp 4,.tmp 5]:=by kernel_rfl
def ZoC:SCode :=
 (.seq (.reg [so 2 (.mv (.const (.bool false)))])
 (.seq (.reg [sm 3 0,so 4 (.call true Zgq [(T 3)]),so 5 (.bin .eql (T 4) (C 0)),sm 6 5,sg 7 (.mv (T 0)) 6 true,sg 8 (.call true Zgt [(T 7)]) 6 true,sg 9 (.bin .eql (T 8) (C 32768)) 6 true,so 10 (.pick (T 6) (T 9) (.const (.bool false))),sm 2 10])
 .ret))
theorem Zur:Zaj Tryz.prog 11 (Tryz.f138.body.getD .skip)=ZoC:=by kernel_rfl
theorem Zus:Zaf Tryz.prog Tryz.f138=some [.tmp 2]:=by kernel_rfl
def Zcj:SCode :=
 (.seq (.reg [so 6 (.mv (C 0)),so 7 (.mv (C 0))])
 (.seq (.reg [sm 11 0,so 12 (.nilc (T 11)),so 13 (.faddr 0 (T 12)),so 14 (.load none (T 13)),sm 15 2,so 16 (.call true ZaV [(T 14),(T 15)]),sm 10 16,so 17 (.ext (T 10) 0),so 18 (.ext (T 10) 1),sm 8 17,sm 9 18])
 (.seq (.seq (.reg [sm 19 9,so 20 (.un .not (T 19))])
 (.cond (T 20)
 (.seq (.reg [so 6 (.mv (C 0)),so 7 (.mv (C 2))])
 .ret)
 .skip))
 (.seq (.reg [sm 21 1,sm 22 8,so 23 (.bin .add (T 21) (T 22)),sm 6 23,so 7 (.mv (C 0))])
 .ret))))
theorem Zd1:Zaj Tryz.prog 24 (Tryz.f139.body.getD .skip)=Zcj:=by kernel_rfl
theorem Zd2:Zaf Tryz.prog Tryz.f139=some [.tmp 6,.tmp 7]:=by kernel_rfl
def Zf2:SCode :=
 (.seq (.reg [so 2 (.mv (.const (.bool false)))])
 (.seq (.reg [so 3 (.mv (C 0))])
 (.seq (.seq (.reg [sm 6 0,so 7 (.len false (T 6)),so 8 (.mv (C 0))])
 (.block 0
 (.loop
 (.seq (.reg [so 9 (.bin .lss (T 8) (T 7))])
 (.seq (.cond (T 9)
 .skip
 (.exit 0))
 (.seq (.block 1
 (.seq (.reg [so 10 (.iaddr none (T 6) (T 8)),so 11 (.load none (T 10)),sm 5 11])
 (.reg [sm 12 3,sm 13 5,so 14 (.bin .add (T 12) (T 13)),sm 3 14])))
 (.reg [so 15 (.bin .add (T 8) (C 1)),sm 8 15])))))))
 (.seq (.reg [sm 16 3,so 17 (.bin .leq (T 16) (C 1)),sm 18 17,sg 19 (.mv (T 0)) 18 false,sg 20 (.call true ZfS [(T 19)]) 18 false,so 21 (.pick (T 18) (.const (.bool true)) (T 20)),sm 2 21])
 .ret))))
theorem Zky:Zaj Tryz.prog 22 (Tryz.f140.body.getD .skip)=Zf2:=by kernel_rfl
theorem Zkz:Zaf Tryz.prog Tryz.f140=some [.tmp 2]:=by kernel_rfl
def Zm4:SCode :=
 (.seq (.reg [so 4 (.mv (.const (.int .u64 (0)))),so 5 (.mv (.const (.int .u64 (0))))])
 (.seq (.reg [sm 14 0,so 15 (.bin .and (T 14) (.const (.int .u64 (4294967295)))),sm 6 15])
 (.seq (.reg [sm 16 0,so 17 (.bin .shr (T 16) (.const (.int .u64 (32)))),sm 7 17])
 (.seq (.reg [sm 18 1,so 19 (.bin .and (T 18) (.const (.int .u64 (4294967295)))),sm 8 19])
 (.seq (.reg [sm 20 1,so 21 (.bin .shr (T 20) (.const (.int .u64 (32)))),sm 9 21])
 (.seq (.reg [sm 22 6,sm 23 8,so 24 (.bin .mul (T 22) (T 23)),sm 10 24])
 (.seq (.reg [sm 25 7,sm 26 8,so 27 (.bin .mul (T 25) (T 26)),sm 28 10,so 29 (.bin .shr (T 28) (.const (.int .u64 (32)))),so 30 (.bin .add (T 27) (T 29)),sm 11 30])
 (.seq (.reg [sm 31 11,so 32 (.bin .and (T 31) (.const (.int .u64 (4294967295)))),sm 12 32])
 (.seq (.reg [sm 33 11,so 34 (.bin .shr (T 33) (.const (.int .u64 (32)))),sm 13 34])
 (.seq (.reg [sm 35 12,sm 36 6,sm 37 9,so 38 (.bin .mul (T 36) (T 37)),so 39 (.bin .add (T 35) (T 38)),sm 12 39])
 (.seq (.reg [sm 40 7,sm 41 9,so 42 (.bin .mul (T 40) (T 41)),sm 43 13,so 44 (.bin .add (T 42) (T 43)),sm 45 12,so 46 (.bin .shr (T 45) (.const (.int .u64 (32)))),so 47 (.bin .add (T 44) (T 46)),sm 4 47])
 (.seq (.reg [sm 48 0,sm 49 1,so 50 (.bin .mul (T 48) (T 49)),sm 5 50])
 .ret))))))))))))
theorem Zss:Zaj Tryz.prog 51 (Tryz.f148.body.getD .skip)=Zm4:=by kernel_rfl
theorem Zst:Zaf Tryz.prog Tryz.f148=some [.tmp 4,.tmp 5]:=by kernel_rfl
def Ziz:SCode :=
 (.seq (.reg [so 0 (.mv (.const (.pointer none)))])
 (.seq (.reg [so 1 (.build [(.slice none 0 0),(.int .i64 (0))] []),so 2 (.box (T 1)),sm 0 2])
 .ret))
theorem Znv:Zaj Tryz.prog 3 (Tryz.f19.body.getD .skip)=Ziz:=by kernel_rfl
theorem Znw:Zaf Tryz.prog Tryz.f19=some [.tmp 0]:=by kernel_rfl
def Zd3:SCode :=
 (.seq (.reg [so 2 (.box (T 0))])
 (.seq (.block 0
 (.loop
 (.seq (.seq (.reg [sm 4 1,so 5 (.len false (T 4)),so 6 (.bin .gtr (T 5) (C 65535))])
 (.cond (T 6)
 .skip
 (.exit 0)))
 (.block 1
 (.seq (.reg [so 7 (.load (some 1) (T 2)),sm 8 1,so 9 (.sl none (T 8) none (some (C 65535))),so 10 (.call true ZbA [(T 7),(C 0),(T 9)])])
 (.reg [sm 11 1,so 12 (.sl none (T 11) (some (C 65535)) none),sm 1 12]))))))
 (.reg [so 13 (.load (some 1) (T 2)),sm 14 1,so 15 (.call true ZbA [(T 13),(C 1),(T 14)])])))
theorem Zh0:Zaj Tryz.prog 16 (Tryz.f20.body.getD .skip)=Zd3:=by kernel_rfl
theorem Zh1:Zaf Tryz.prog Tryz.f20=some []:=by kernel_rfl
def Zeo:SCode :=
 (.seq (.reg [so 2 (.box (T 0))])
 (.seq (.reg [so 4 (.load (some 1) (T 2)),so 5 (.call true ZbO [(T 4),(C 1),(C 1)])])
 (.reg3 [so 6 (.load (some 1) (T 2)),sm 7 1,so 8 (.call true Ze9 [])]
 [((some 1),(T 2),6)]
 [so 9 (.call true Zch [(T 6),(T 7),(T 8)])])))
theorem ZiH:Zaj Tryz.prog 10 (Tryz.f21.body.getD .skip)=Zeo:=by kernel_rfl
theorem ZiI:Zaf Tryz.prog Tryz.f21=some []:=by kernel_rfl
def ZgJ:SCode :=
 (.seq (.reg [so 1 (.box (T 0)),so 2 (.mv (.const (.slice none 0 0)))])
 (.seq (.reg [so 3 (.alloc [(.slice none 0 0)])])
 (.seq (.reg [so 4 (.alloc [(.int .i64 (0))]),sn (.store none (T 4) (C 0))])
 (.seq (.reg [so 6 (.mkf Zbg [(T 1),(T 4),(T 3)]),so 5 (.alloc [.nilFunc]),sn (.store none (T 5) (T 6))])
 (.seq (.reg [so 7 (.load none (T 1)),so 8 (.mkf Zbh [(T 5),(T 3),(T 4)]),so 9 (.call true Zhd [(T 7),(T 8)])])
 (.seq (.reg [so 10 (.load none (T 5)),so 11 (.load none (T 1)),so 12 (.len false (T 11)),so 13 (.callv true (T 10) [(T 12)])])
 (.seq (.reg [so 14 (.load none (T 3)),sm 2 14])
 .ret)))))))
theorem Zlw:Zaj Tryz.prog 15 (Tryz.f22.body.getD .skip)=ZgJ:=by kernel_rfl
theorem Zlx:Zaf Tryz.prog Tryz.f22=some [.tmp 2]:=by kernel_rfl
def ZdD:SCode :=
 (.seq (.reg [so 2 (.box (T 0))])
 (.seq (.reg [sm 5 1,so 6 (.call true ZfO [(T 5)]),so 4 (.alloc [(.slice none 0 0),(.slice none 0 0),(.slice none 0 0),(.slice none 0 0)]),sn (.store (some 4) (T 4) (T 6))])
 (.seq (.reg [so 7 (.load (some 1) (T 2)),so 8 (.call true ZbO [(T 7),(C 1),(C 2)])])
 (.seq (.reg [so 9 (.load (some 1) (T 2)),so 10 (.load (some 4) (T 4)),so 11 (.call true ZeO [(T 9),(T 10)])])
 (.reg [so 12 (.load (some 1) (T 2)),sm 13 1,so 14 (.load (some 4) (T 4)),so 15 (.call true Zch [(T 12),(T 13),(T 14)])])))))
theorem Zhl:Zaj Tryz.prog 16 (Tryz.f23.body.getD .skip)=ZdD:=by kernel_rfl
theorem Zhm:Zaf Tryz.prog Tryz.f23=some []:=by kernel_rfl
def Zf3:SCode :=
 (.seq (.reg [so 2 (.mv (.const (.slice none 0 0)))])
 (.seq (.reg [sm 3 0,so 4 (.nilc (T 3)),so 5 (.faddr 0 (T 4)),so 6 (.load none (T 5)),so 7 (.call true ZdK [(T 6)]),sm 2 7])
 .ret))
theorem ZkA:Zaj Tryz.prog 8 (Tryz.f24.body.getD .skip)=Zf3:=by kernel_rfl
theorem ZkB:Zaf Tryz.prog Tryz.f24=some [.tmp 2]:=by kernel_rfl
def ZcE:SCode :=
 (.seq (.reg [so 3 (.box (T 0))])
 (.seq (.reg [so 6 (.load (some 1) (T 3)),sm 7 1,so 8 (.call true ZbO [(T 6),(T 7),(C 0)])])
 (.seq (.reg [so 9 (.faddr 0 (T 3)),so 10 (.load none (T 9)),so 11 (.call true Zdq [(T 10)])])
 (.seq (.reg [so 12 (.faddr 0 (T 3)),so 13 (.load none (T 12)),sm 14 2,so 15 (.len false (T 14)),so 16 (.call true ZaC [(T 13),(T 15),(C 16)])])
 (.seq (.reg [so 17 (.faddr 0 (T 3)),so 18 (.load none (T 17)),sm 19 2,so 20 (.len false (T 19)),so 21 (.bin .sub (C 65535) (T 20)),so 22 (.call true ZaC [(T 18),(T 21),(C 16)])])
 (.reg [so 23 (.faddr 0 (T 3)),so 24 (.load none (T 23)),sm 25 2,so 26 (.call true Zhf [(T 24),(T 25)])]))))))
theorem Zft:Zaj Tryz.prog 27 (Tryz.f45.body.getD .skip)=ZcE:=by kernel_rfl
theorem Zfu:Zaf Tryz.prog Tryz.f45=some []:=by kernel_rfl
def Zep:SCode :=
 (.seq (.reg [so 3 (.box (T 0))])
 (.seq (.reg [so 6 (.faddr 0 (T 3)),so 7 (.load none (T 6)),sm 8 1,so 9 (.call true ZaC [(T 7),(T 8),(C 1)])])
 (.reg [so 10 (.faddr 0 (T 3)),so 11 (.load none (T 10)),sm 12 2,so 13 (.call true ZaC [(T 11),(T 12),(C 2)])])))
theorem ZiJ:Zaj Tryz.prog 14 (Tryz.f46.body.getD .skip)=Zep:=by kernel_rfl
theorem ZiK:Zaf Tryz.prog Tryz.f46=some []:=by kernel_rfl
def Zd4:SCode :=
 (.seq (.reg [so 3 (.box (T 0)),so 5 (.box (T 2))])
 (.seq (.seq (.reg [sm 8 1,so 9 (.len false (T 8)),so 10 (.mv (C 0))])
 (.block 0
 (.loop
 (.seq (.reg [so 11 (.bin .lss (T 10) (T 9))])
 (.seq (.cond (T 11)
 .skip
 (.exit 0))
 (.seq (.block 1
 (.seq (.reg [so 12 (.iaddr (some 2) (T 8) (T 10)),so 13 (.load (some 2) (T 12)),so 7 (.alloc [(.int .u16 (0)),(.int .u16 (0))]),sn (.store (some 2) (T 7) (T 13))])
 (.seq (.reg3 [so 14 (.load (some 1) (T 3)),so 15 (.faddr 0 (T 5)),so 16 (.load (some 2) (T 15)),so 17 (.load (some 2) (T 7)),so 18 (.call true Zci [(T 17)])]
 [((some 1),(T 3),14),((some 2),(T 15),16)]
 [so 19 (.call true Zbc [(T 14),(T 16),(T 18)])])
 (.seq (.reg [so 20 (.load (some 2) (T 7)),so 21 (.call true ZbT [(T 20)])])
 (.cond (T 21)
 (.reg3 [so 22 (.load (some 1) (T 3)),so 23 (.faddr 2 (T 5)),so 24 (.load (some 2) (T 23)),so 25 (.load (some 2) (T 7)),so 26 (.call true Zcb [(T 25)])]
 [((some 1),(T 3),22),((some 2),(T 23),24)]
 [so 27 (.call true Zbc [(T 22),(T 24),(T 26)])])
 .skip)))))
 (.reg [so 28 (.bin .add (T 10) (C 1)),sm 10 28])))))))
 (.reg [so 29 (.load (some 1) (T 3)),so 30 (.faddr 0 (T 5)),so 31 (.load (some 2) (T 30)),so 32 (.build [(.int .i64 (0)),(.int .i64 (0)),(.int .i64 (0))] [(0,1,(C 256))]),so 33 (.call true Zbc [(T 29),(T 31),(T 32)])])))
theorem Zh2:Zaj Tryz.prog 34 (Tryz.f47.body.getD .skip)=Zd4:=by kernel_rfl
theorem Zh3:Zaf Tryz.prog Tryz.f47=some []:=by kernel_rfl
def Zfg:SCode :=
 (.seq (.reg [so 0 (.alloc [(.slice none 0 0),(.slice none 0 0),(.slice none 0 0),(.slice none 0 0)])])
 (.seq (.reg [so 1 (.bsl none [(C 8)]),so 2 (.call true Zaw [(T 1),(C 144)]),so 3 (.bsl none [(C 9)]),so 4 (.call true Zaw [(T 3),(C 112)]),so 5 (.bsl none [(C 7)]),so 6 (.call true Zaw [(T 5),(C 24)]),so 7 (.bsl none [(C 8)]),so 8 (.call true Zaw [(T 7),(C 8)]),so 9 (.bslice none [(T 2),(T 4),(T 6),(T 8)]),so 10 (.call true Za6 [(T 9)]),so 11 (.call true Zdk [(T 10)]),so 12 (.bsl none [(C 5)]),so 13 (.call true Zaw [(T 12),(C 32)]),so 14 (.call true Zdk [(T 13)]),so 15 (.build [(.slice none 0 0),(.slice none 0 0),(.slice none 0 0),(.slice none 0 0)] [(0,2,(T 11)),(2,2,(T 14))]),sn (.store (some 4) (T 0) (T 15))])
 .ret))
theorem ZjW:Zaj Tryz.prog 16 (Tryz.f48.body.getD .skip)=Zfg:=by kernel_rfl
theorem ZjX:Zaf Tryz.prog Tryz.f48=some [.cell 0 (some 4)]:=by kernel_rfl
def Zfh:SCode :=
 (.seq (.reg [so 7 (.load none (T 1)),so 8 (.load none (T 2)),sm 9 0,so 10 (.sl none (T 7) (some (T 8)) (some (T 9))),so 11 (.len false (T 10)),so 12 (.mv (C 0))])
 (.block 0
 (.loop
 (.seq (.reg [so 13 (.bin .lss (T 12) (T 11))])
 (.seq (.cond (T 13)
 .skip
 (.exit 0))
 (.seq (.block 1
 (.seq (.reg [so 14 (.iaddr none (T 10) (T 12)),so 15 (.load none (T 14)),sm 6 15])
 (.reg [so 16 (.load none (T 3)),sm 17 6,so 18 (.ci .u16 (T 17)),so 19 (.build [(.int .u16 (0)),(.int .u16 (0))] [(0,1,(T 18))]),so 20 (.bslice (some 2) [(T 19)]),so 21 (.app (some 2) 4 (T 16) (T 20)),sn (.store none (T 3) (T 21))])))
 (.reg [so 22 (.bin .add (T 12) (C 1)),sm 12 22])))))))
theorem ZjY:Zaj Tryz.prog 23 (Tryz.f49.body.getD .skip)=Zfh:=by kernel_rfl
theorem ZjZ:Zaf Tryz.prog Tryz.f49=some []:=by kernel_rfl
def Zhn:SCode :=
 (.seq (.reg [sm 8 0,so 9 (.call true ZfP [(T 8)]),sm 4 9])
 (.seq (.reg [so 5 (.mv (C 0))])
 (.block 0
 (.loop
 (.seq (.seq (.reg [sm 10 5,sm 11 0,so 12 (.len false (T 11)),so 13 (.bin .lss (T 10) (T 12))])
 (.cond (T 13)
 .skip
 (.exit 0)))
 (.block 1
 (.seq (.reg [sm 15 4,sm 16 5,so 17 (.call true Zdz [(T 15),(T 16)]),sm 14 17,so 18 (.ext (T 14) 0),so 19 (.ext (T 14) 1),sm 6 18,sm 7 19])
 (.seq (.seq (.reg [sm 20 6,so 21 (.bin .gtr (T 20) (C 0))])
 (.cond (T 21)
 (.reg [sm 22 1,sm 23 5,sm 24 6,sm 25 7,so 26 (.callv true (T 22) [(T 23),(T 24),(T 25)])])
 .skip))
 (.seq (.reg [sm 27 6,so 28 (.mm true (T 27) [(C 1)]),so 29 (.mv (C 0))])
 (.block 2
 (.loop
 (.seq (.reg [so 30 (.bin .lss (T 29) (T 28))])
 (.seq (.cond (T 30)
 .skip
 (.exit 2))
 (.seq (.block 3
 (.seq (.reg [sm 31 4,sm 32 5,so 33 (.call true Ze8 [(T 31),(T 32)])])
 (.reg [sm 34 5,so 35 (.bin .add (T 34) (C 1)),sm 5 35])))
 (.reg [so 36 (.bin .add (T 29) (C 1)),sm 29 36])))))))))))))))
theorem Zml:Zaj Tryz.prog 37 (Tryz.f50.body.getD .skip)=Zhn:=by kernel_rfl
theorem Zmm:Zaf Tryz.prog Tryz.f50=some []:=by kernel_rfl
def Zfi:SCode :=
 (.seq (.reg [so 9 (.load none (T 3)),sm 10 0,so 11 (.callv true (T 9) [(T 10)])])
 (.seq (.reg [so 12 (.load none (T 4)),sm 13 1,so 14 (.ci .u16 (T 13)),sm 15 2,so 16 (.ci .u16 (T 15)),so 17 (.build [(.int .u16 (0)),(.int .u16 (0))] [(0,1,(T 14)),(1,1,(T 16))]),so 18 (.bslice (some 2) [(T 17)]),so 19 (.app (some 2) 4 (T 12) (T 18)),sn (.store none (T 4) (T 19))])
 (.reg [sm 20 0,sm 21 1,so 22 (.bin .add (T 20) (T 21)),sn (.store none (T 5) (T 22))])))
theorem Zj0:Zaj Tryz.prog 23 (Tryz.f51.body.getD .skip)=Zfi:=by kernel_rfl
theorem Zj1:Zaf Tryz.prog Tryz.f51=some []:=by kernel_rfl
def Zf4:SCode :=
 (.seq (.reg [so 2 (.alloc [(.slice none 0 0),(.slice none 0 0),(.slice none 0 0),(.slice none 0 0)])])
 (.seq (.reg2 [so 7 (.mks none 8 [(.int .i64 (0))] (C 286) (C 286)),so 8 (.mks none 8 [(.int .i64 (0))] (C 30) (C 30)),sm 3 7,sm 4 8])
 (.seq (.seq (.reg [sm 9 0,so 10 (.len false (T 9)),so 11 (.mv (C 0))])
 (.block 0
 (.loop
 (.seq (.reg [so 12 (.bin .lss (T 11) (T 10))])
 (.seq (.cond (T 12)
 .skip
 (.exit 0))
 (.seq (.block 1
 (.seq (.reg [so 13 (.iaddr (some 2) (T 9) (T 11)),so 14 (.load (some 2) (T 13)),so 6 (.alloc [(.int .u16 (0)),(.int .u16 (0))]),sn (.store (some 2) (T 6) (T 14))])
 (.seq (.reg [sm 15 3,so 16 (.load (some 2) (T 6)),so 17 (.call true Zci [(T 16)]),so 18 (.fld 0 none (T 17)),so 19 (.iaddr none (T 15) (T 18)),so 20 (.load none (T 19)),so 21 (.bin .add (T 20) (C 1)),so 22 (.iaddr none (T 15) (T 18)),sn (.store none (T 22) (T 21))])
 (.seq (.reg [so 23 (.load (some 2) (T 6)),so 24 (.call true ZbT [(T 23)])])
 (.cond (T 24)
 (.reg [sm 25 4,so 26 (.load (some 2) (T 6)),so 27 (.call true Zcb [(T 26)]),so 28 (.fld 0 none (T 27)),so 29 (.iaddr none (T 25) (T 28)),so 30 (.load none (T 29)),so 31 (.bin .add (T 30) (C 1)),so 32 (.iaddr none (T 25) (T 28)),sn (.store none (T 32) (T 31))])
 .skip)))))
 (.reg [so 33 (.bin .add (T 11) (C 1)),sm 11 33])))))))
 (.seq (.reg [sm 34 3,so 35 (.iaddr none (T 34) (C 256)),so 36 (.load none (T 35)),so 37 (.bin .add (T 36) (C 1)),so 38 (.iaddr none (T 34) (C 256)),sn (.store none (T 38) (T 37))])
 (.seq (.seq (.reg [sm 39 0,so 40 (.len false (T 39)),so 41 (.bin .eql (T 40) (C 0))])
 (.cond (T 41)
 (.reg [sm 42 3,so 43 (.iaddr none (T 42) (C 0)),so 44 (.load none (T 43)),so 45 (.bin .add (T 44) (C 1)),so 46 (.iaddr none (T 42) (C 0)),sn (.store none (T 46) (T 45))])
 .skip))
 (.seq (.reg [sm 47 3,so 48 (.call true Zcx [(T 47),(C 15)]),sm 49 4,so 50 (.call true Zcx [(T 49),(C 15)]),so 51 (.build [(.slice none 0 0),(.slice none 0 0),(.slice none 0 0),(.slice none 0 0)] [(0,2,(T 48)),(2,2,(T 50))]),sn (.store (some 4) (T 2) (T 51))])
 .ret))))))
theorem ZkC:Zaj Tryz.prog 52 (Tryz.f52.body.getD .skip)=Zf4:=by kernel_rfl
theorem ZkD:Zaf Tryz.prog Tryz.f52=some [.cell 2 (some 4)]:=by kernel_rfl
def ZeU:SCode :=
 (.seq (.reg [so 2 (.box (T 0)),so 3 (.box (T 1))])
 (.seq (.reg [so 15 (.faddr 0 (T 3)),so 16 (.faddr 0 (T 15)),so 17 (.load none (T 16)),so 18 (.call false Zfp [(T 17),(C 257)]),so 19 (.faddr 2 (T 3)),so 20 (.faddr 0 (T 19)),so 21 (.load none (T 20)),so 22 (.call true Zfp [(T 21),(C 1)]),sm 4 18,sm 5 22])
 (.seq (.reg [sm 23 4,sm 24 5,so 25 (.bsl none [(T 23),(T 24)]),so 26 (.call true Za6 [(T 25)]),so 27 (.call true Zhe [(T 26)]),sm 6 27])
 (.seq (.reg [sm 28 6,so 29 (.call true Ze7 [(T 28)]),so 7 (.alloc [(.slice none 0 0),(.slice none 0 0)]),sn (.store (some 2) (T 7) (T 29))])
 (.seq (.reg [so 8 (.mv (.const (.slice none 0 0)))])
 (.seq (.seq (.reg [so 30 (.load (some 19) (.global 0)),so 31 (.mv (C 0))])
 (.block 0
 (.loop
 (.seq (.reg [so 32 (.bin .lss (T 31) (C 19))])
 (.seq (.cond (T 32)
 .skip
 (.exit 0))
 (.seq (.block 1
 (.seq (.reg [so 33 (.idxA 19 none (T 30) (T 31)),sm 10 33])
 (.reg [sm 34 8,so 35 (.faddr 0 (T 7)),so 36 (.load none (T 35)),sm 37 10,so 38 (.iaddr none (T 36) (T 37)),so 39 (.load none (T 38)),so 40 (.bslice none [(T 39)]),so 41 (.app none 8 (T 34) (T 40)),sm 8 41])))
 (.reg [so 42 (.bin .add (T 31) (C 1)),sm 31 42])))))))
 (.seq (.reg [sm 43 8,so 44 (.call true Zfp [(T 43),(C 4)]),sm 8 44])
 (.seq (.reg [so 45 (.faddr 0 (T 2)),so 46 (.load none (T 45)),sm 47 4,so 48 (.len false (T 47)),so 49 (.bin .sub (T 48) (C 257)),so 50 (.call true ZaC [(T 46),(T 49),(C 5)])])
 (.seq (.reg [so 51 (.faddr 0 (T 2)),so 52 (.load none (T 51)),sm 53 5,so 54 (.len false (T 53)),so 55 (.bin .sub (T 54) (C 1)),so 56 (.call true ZaC [(T 52),(T 55),(C 5)])])
 (.seq (.reg [so 57 (.faddr 0 (T 2)),so 58 (.load none (T 57)),sm 59 8,so 60 (.len false (T 59)),so 61 (.bin .sub (T 60) (C 4)),so 62 (.call true ZaC [(T 58),(T 61),(C 4)])])
 (.seq (.seq (.reg [sm 63 8,so 64 (.len false (T 63)),so 65 (.mv (C 0))])
 (.block 2
 (.loop
 (.seq (.reg [so 66 (.bin .lss (T 65) (T 64))])
 (.seq (.cond (T 66)
 .skip
 (.exit 2))
 (.seq (.block 3
 (.seq (.reg [so 67 (.iaddr none (T 63) (T 65)),so 68 (.load none (T 67)),sm 12 68])
 (.reg [so 69 (.faddr 0 (T 2)),so 70 (.load none (T 69)),sm 71 12,so 72 (.call true ZaC [(T 70),(T 71),(C 3)])])))
 (.reg [so 73 (.bin .add (T 65) (C 1)),sm 65 73])))))))
 (.seq (.reg [sm 74 6,so 75 (.len false (T 74)),so 76 (.mv (C 0))])
 (.block 4
 (.loop
 (.seq (.reg [so 77 (.bin .lss (T 76) (T 75))])
 (.seq (.cond (T 77)
 .skip
 (.exit 4))
 (.seq (.block 5
 (.seq (.reg [so 78 (.iaddr (some 3) (T 74) (T 76)),so 79 (.load (some 3) (T 78)),so 14 (.alloc [(.int .i64 (0)),(.int .i64 (0)),(.int .i64 (0))]),sn (.store (some 3) (T 14) (T 79))])
 (.reg [so 80 (.load (some 1) (T 2)),so 81 (.load (some 2) (T 7)),so 82 (.load (some 3) (T 14)),so 83 (.call true Zbc [(T 80),(T 81),(T 82)])])))
 (.reg [so 84 (.bin .add (T 76) (C 1)),sm 76 84]))))))))))))))))))
theorem Zi7:Zaj Tryz.prog 85 (Tryz.f53.body.getD .skip)=ZeU:=by kernel_rfl
theorem Zi8:Zaf Tryz.prog Tryz.f53=some []:=by kernel_rfl
def Zf5:SCode :=
 (.reg [sm 2 0,sm 3 0,so 4 (.nilc (T 3)),so 5 (.faddr 0 (T 4)),so 6 (.load none (T 5)),so 7 (.len false (T 6)),so 8 (.bin .mul (T 7) (C 8)),so 9 (.nilc (T 2)),so 10 (.faddr 1 (T 9)),sn (.store none (T 10) (T 8))])
theorem ZkE:Zaj Tryz.prog 11 (Tryz.f79.body.getD .skip)=Zf5:=by kernel_rfl
theorem ZkF:Zaf Tryz.prog Tryz.f79=some []:=by kernel_rfl
def Zho:SCode :=
 (.seq (.seq (.reg [sm 7 2,so 8 (.bin .lss (T 7) (C 0)),sm 9 8,sg 10 (.mv (T 2)) 9 false,sg 11 (.bin .gtr (T 10) (C 24)) 9 false,so 12 (.pick (T 9) (.const (.bool true)) (T 11))])
 (.cond (T 12)
 .ret
 .skip))
 (.seq (.reg [sm 13 2,so 14 (.mv (C 0))])
 (.block 0
 (.loop
 (.seq (.reg [so 15 (.bin .lss (T 14) (T 13))])
 (.seq (.cond (T 15)
 .skip
 (.exit 0))
 (.seq (.block 1
 (.seq (.reg [sm 16 14,sm 6 16])
 (.reg [sm 17 0,sm 18 1,sm 19 6,so 20 (.bin .shr (T 18) (T 19)),so 21 (.bin .and (T 20) (C 1)),so 22 (.call true ZeD [(T 17),(T 21)])])))
 (.reg [so 23 (.bin .add (T 14) (C 1)),sm 14 23]))))))))
theorem Zmn:Zaj Tryz.prog 24 (Tryz.f80.body.getD .skip)=Zho:=by kernel_rfl
theorem Zmo:Zaf Tryz.prog Tryz.f80=some []:=by kernel_rfl
def Zhp:SCode :=
 (.seq (.reg [sm 4 0,sm 5 0,so 6 (.nilc (T 5)),so 7 (.faddr 0 (T 6)),so 8 (.load none (T 7)),sm 9 1,so 10 (.app none 1 (T 8) (T 9)),so 11 (.nilc (T 4)),so 12 (.faddr 0 (T 11)),sn (.store none (T 12) (T 10))])
 (.reg [sm 13 0,so 14 (.call true Zdq [(T 13)])]))
theorem Zmp:Zaj Tryz.prog 15 (Tryz.f81.body.getD .skip)=Zhp:=by kernel_rfl
theorem Zmq:Zaf Tryz.prog Tryz.f81=some []:=by kernel_rfl
def Zd5:SCode :=
 (.seq (.reg [so 3 (.box (T 0)),so 4 (.box (T 1)),so 5 (.box (T 2))])
 (.seq (.reg [so 6 (.faddr 0 (T 3)),so 7 (.load none (T 6)),so 8 (.faddr 1 (T 4)),so 9 (.load none (T 8)),so 10 (.faddr 0 (T 5)),so 11 (.load none (T 10)),so 12 (.iaddr none (T 9) (T 11)),so 13 (.load none (T 12)),so 14 (.faddr 0 (T 4)),so 15 (.load none (T 14)),so 16 (.faddr 0 (T 5)),so 17 (.load none (T 16)),so 18 (.iaddr none (T 15) (T 17)),so 19 (.load none (T 18)),so 20 (.call true Zgs [(T 7),(T 13),(T 19)])])
 (.reg [so 21 (.faddr 0 (T 3)),so 22 (.load none (T 21)),so 23 (.faddr 1 (T 5)),so 24 (.load none (T 23)),so 25 (.faddr 2 (T 5)),so 26 (.load none (T 25)),so 27 (.call true ZaC [(T 22),(T 24),(T 26)])])))
theorem Zh4:Zaj Tryz.prog 28 (Tryz.f82.body.getD .skip)=Zd5:=by kernel_rfl
theorem Zh5:Zaf Tryz.prog Tryz.f82=some []:=by kernel_rfl
def Zd6:SCode :=
 (.seq (.reg [so 1 (.box (T 0)),so 2 (.alloc [(.int .i64 (0)),(.int .i64 (0)),(.int .i64 (0))])])
 (.seq (.seq (.reg [so 4 (.load (some 2) (T 1)),so 5 (.call true ZbT [(T 4)]),so 6 (.un .not (T 5))])
 (.cond (T 6)
 (.seq (.reg [so 7 (.faddr 0 (T 1)),so 8 (.load none (T 7)),so 9 (.ci .i64 (T 8)),so 10 (.build [(.int .i64 (0)),(.int .i64 (0)),(.int .i64 (0))] [(0,1,(T 9))]),sn (.store (some 3) (T 2) (T 10))])
 .ret)
 .skip))
 (.seq (.seq (.reg [so 11 (.faddr 0 (T 1)),so 12 (.load none (T 11)),so 13 (.bin .eql (T 12) (.const (.int .u16 (258))))])
 (.cond (T 13)
 (.seq (.reg [so 14 (.build [(.int .i64 (0)),(.int .i64 (0)),(.int .i64 (0))] [(0,1,(C 285))]),sn (.store (some 3) (T 2) (T 14))])
 .ret)
 .skip))
 (.seq (.reg [so 15 (.faddr 0 (T 1)),so 16 (.load none (T 15)),so 17 (.ci .i64 (T 16)),so 18 (.bin .sub (T 17) (C 3)),so 19 (.call true ZdN [(T 18),(C 2)]),so 3 (.alloc [(.int .i64 (0)),(.int .i64 (0)),(.int .i64 (0))]),sn (.store (some 3) (T 3) (T 19))])
 (.seq (.reg [so 20 (.faddr 0 (T 3)),so 21 (.load none (T 20)),so 22 (.bin .add (T 21) (C 257)),so 23 (.faddr 0 (T 3)),sn (.store none (T 23) (T 22))])
 (.seq (.reg [so 24 (.load (some 3) (T 3)),sn (.store (some 3) (T 2) (T 24))])
 .ret))))))
theorem Zh6:Zaj Tryz.prog 25 (Tryz.f83.body.getD .skip)=Zd6:=by kernel_rfl
theorem Zh7:Zaf Tryz.prog Tryz.f83=some [.cell 2 (some 3)]:=by kernel_rfl
def ZeV:SCode :=
 (.seq (.reg [so 1 (.box (T 0)),so 2 (.mv (.const (.bool false)))])
 (.seq (.reg [so 3 (.faddr 1 (T 1)),so 4 (.load none (T 3)),so 5 (.bin .gtr (T 4) (.const (.int .u16 (0)))),sm 2 5])
 .ret))
theorem Zi9:Zaj Tryz.prog 6 (Tryz.f84.body.getD .skip)=ZeV:=by kernel_rfl
theorem Zja:Zaf Tryz.prog Tryz.f84=some [.tmp 2]:=by kernel_rfl
def ZdE:SCode :=
 (.seq (.reg [so 1 (.box (T 0)),so 2 (.alloc [(.int .i64 (0)),(.int .i64 (0)),(.int .i64 (0))])])
 (.seq (.reg [so 3 (.faddr 1 (T 1)),so 4 (.load none (T 3)),so 5 (.ci .i64 (T 4)),so 6 (.bin .sub (T 5) (C 1)),so 7 (.call true ZdN [(T 6),(C 1)]),sn (.store (some 3) (T 2) (T 7))])
 .ret))
theorem Zhq:Zaj Tryz.prog 8 (Tryz.f85.body.getD .skip)=ZdE:=by kernel_rfl
theorem Zhr:Zaf Tryz.prog Tryz.f85=some [.cell 2 (some 3)]:=by kernel_rfl
def ZiA:SCode :=
 (.seq (.reg [so 2 (.alloc [(.slice none 0 0),(.slice none 0 0)])])
 (.seq (.reg [sm 6 0,so 7 (.call true Zi1 [(T 6)]),sm 5 7,so 8 (.ext (T 5) 0),so 9 (.ext (T 5) 1),sm 3 8,sm 4 9])
 (.seq (.reg [sm 10 0,sm 11 3,so 12 (.build [(.slice none 0 0),(.slice none 0 0)] [(0,1,(T 10)),(1,1,(T 11))]),sn (.store (some 2) (T 2) (T 12))])
 .ret)))
theorem Znx:Zaj Tryz.prog 13 (Tryz.f86.body.getD .skip)=ZiA:=by kernel_rfl
theorem Zny:Zaf Tryz.prog Tryz.f86=some [.cell 2 (some 2)]:=by kernel_rfl
def Zf6:SCode :=
 (.seq (.reg [so 2 (.mv (.const (.pointer none)))])
 (.seq (.reg [sm 4 0,so 5 (.mkm),sm 6 0,so 7 (.len false (T 6)),so 8 (.mm false (T 7) [(C 32768)]),so 9 (.mks none 8 [(.int .i64 (0))] (T 8) (T 8)),so 10 (.build [(.slice none 0 0),(.map none),(.slice none 0 0),(.int .i64 (0))] [(0,1,(T 4)),(1,1,(T 5)),(2,1,(T 9)),(3,1,(C 256))]),so 11 (.box (T 10)),sm 3 11])
 (.seq (.seq (.reg [sm 12 0,so 13 (.len false (T 12)),so 14 (.bin .leq (T 13) (C 16000))])
 (.cond (T 14)
 (.reg [sm 15 3,sm 16 0,so 17 (.len false (T 16)),so 18 (.nilc (T 15)),so 19 (.faddr 3 (T 18)),sn (.store none (T 19) (T 17))])
 .skip))
 (.seq (.reg [sm 20 3,sm 2 20])
 .ret))))
theorem ZkG:Zaj Tryz.prog 21 (Tryz.f89.body.getD .skip)=Zf6:=by kernel_rfl
theorem ZkH:Zaf Tryz.prog Tryz.f89=some [.tmp 2]:=by kernel_rfl
def ZdF:SCode :=
 (.seq (.reg [so 4 (.mv (C 0)),so 5 (.mv (C 0))])
 (.seq (.reg [sm 9 0,so 10 (.nilc (T 9)),so 11 (.faddr 0 (T 10)),so 12 (.load none (T 11)),so 13 (.len false (T 12)),sm 14 1,so 15 (.bin .sub (T 13) (T 14)),so 16 (.mm false (C 258) [(T 15)]),sm 6 16])
 (.seq (.reg [sm 17 0,sm 18 1,so 19 (.call true ZbX [(T 17),(T 18)]),sm 7 19])
 (.seq (.seq (.reg [sm 20 0,so 21 (.nilc (T 20)),so 22 (.faddr 3 (T 21)),so 23 (.load none (T 22)),so 24 (.mv (C 0))])
 (.block 0
 (.loop
 (.seq (.reg [so 25 (.bin .lss (T 24) (T 23))])
 (.seq (.cond (T 25)
 .skip
 (.exit 0))
 (.seq (.block 1
 (.seq (.seq (.reg [sm 26 1,sm 27 7,so 28 (.bin .sub (T 26) (T 27)),so 29 (.bin .gtr (T 28) (C 32768)),sm 30 29,sg 31 (.mv (T 4)) 30 false,sg 32 (.mv (T 6)) 30 false,sg 33 (.bin .eql (T 31) (T 32)) 30 false,so 34 (.pick (T 30) (.const (.bool true)) (T 33))])
 (.cond (T 34)
 (.exit 0)
 .skip))
 (.seq (.seq (.reg [sm 35 0,sm 36 7,sm 37 1,sm 38 6,so 39 (.call true Zel [(T 35),(T 36),(T 37),(T 38)]),sm 8 39])
 (.seq (.reg [sm 40 8,sm 41 4,so 42 (.bin .gtr (T 40) (T 41))])
 (.cond (T 42)
 (.reg [sm 43 8,sm 44 1,sm 45 7,so 46 (.bin .sub (T 44) (T 45)),sm 4 43,sm 5 46])
 .skip)))
 (.reg [sm 47 0,so 48 (.nilc (T 47)),so 49 (.faddr 2 (T 48)),so 50 (.load none (T 49)),sm 51 7,sm 52 0,so 53 (.nilc (T 52)),so 54 (.faddr 2 (T 53)),so 55 (.load none (T 54)),so 56 (.len false (T 55)),so 57 (.bin .rem (T 51) (T 56)),so 58 (.iaddr none (T 50) (T 57)),so 59 (.load none (T 58)),sm 7 59]))))
 (.reg [so 60 (.bin .add (T 24) (C 1)),sm 24 60])))))))
 (.seq (.reg [sm 61 4,sm 62 5,sm 4 61,sm 5 62])
 .ret)))))
theorem Zhs:Zaj Tryz.prog 63 (Tryz.f90.body.getD .skip)=ZdF:=by kernel_rfl
theorem Zht:Zaf Tryz.prog Tryz.f90=some [.tmp 4,.tmp 5]:=by kernel_rfl
def Zfj:SCode :=
 (.seq (.reg [sm 9 1,so 10 (.bin .sub (T 9) (C 32768)),sm 4 10])
 (.seq (.seq (.reg [sm 12 0,sm 13 4,so 14 (.call true ZbN [(T 12),(T 13)]),sm 11 14,so 15 (.ext (T 11) 0),so 16 (.ext (T 11) 1),so 5 (.alloc [(.int .u8 (0)),(.int .u8 (0)),(.int .u8 (0))]),sn (.store (some 3) (T 5) (T 15)),sm 6 16])
 (.seq (.reg [sm 17 6,sm 18 17,sg 19 (.mv (T 0)) 18 true,sg 20 (.nilc (T 19)) 18 true,sg 21 (.faddr 1 (T 20)) 18 true,sg 22 (.load none (T 21)) 18 true,sg 23 (.load (some 3) (T 5)) 18 true,sg 24 (.mget false (.agg #[(.int .u8 (0)),(.int .u8 (0)),(.int .u8 (0))]) (.int .i64 (0)) (T 22) (T 23)) 18 true,sg 25 (.mv (T 4)) 18 true,sg 26 (.bin .eql (T 24) (T 25)) 18 true,so 27 (.pick (T 18) (T 26) (.const (.bool false)))])
 (.cond (T 27)
 (.reg [sm 28 0,so 29 (.nilc (T 28)),so 30 (.faddr 1 (T 29)),so 31 (.load none (T 30)),so 32 (.load (some 3) (T 5)),sn (.mdel (.agg #[(.int .u8 (0)),(.int .u8 (0)),(.int .u8 (0))]) (T 31) (T 32))])
 .skip)))
 (.seq (.reg [sm 34 0,sm 35 1,so 36 (.call true ZbN [(T 34),(T 35)]),sm 33 36,so 37 (.ext (T 33) 0),so 38 (.ext (T 33) 1),so 7 (.alloc [(.int .u8 (0)),(.int .u8 (0)),(.int .u8 (0))]),sn (.store (some 3) (T 7) (T 37)),sm 8 38])
 (.seq (.reg [sm 39 8])
 (.cond (T 39)
 (.seq (.reg3 [sm 40 0,so 41 (.nilc (T 40)),so 42 (.faddr 2 (T 41)),so 43 (.load none (T 42)),sm 44 1,sm 45 0,so 46 (.nilc (T 45)),so 47 (.faddr 2 (T 46)),so 48 (.load none (T 47)),so 49 (.len false (T 48)),so 50 (.bin .rem (T 44) (T 49)),sm 51 0,sm 52 1,so 53 (.call true ZbX [(T 51),(T 52)])]
 [(none,(T 42),43),(none,(T 47),48)]
 [so 54 (.iaddr none (T 43) (T 50)),sn (.store none (T 54) (T 53))])
 (.reg [sm 55 0,so 56 (.nilc (T 55)),so 57 (.faddr 1 (T 56)),so 58 (.load none (T 57)),so 59 (.load (some 3) (T 7)),sm 60 1,sn (.mset (.agg #[(.int .u8 (0)),(.int .u8 (0)),(.int .u8 (0))]) (T 58) (T 59) (T 60))]))
 .skip)))))
theorem Zj2:Zaj Tryz.prog 61 (Tryz.f91.body.getD .skip)=Zfj:=by kernel_rfl
theorem Zj3:Zaf Tryz.prog Tryz.f91=some []:=by kernel_rfl
def ZgK:SCode :=
 (.seq (.reg [so 4 (.alloc [(.slice none 0 0),(.slice none 0 0)])])
 (.seq (.reg [sm 8 0,sm 9 1,so 10 (.call true Zkb [(T 8),(T 9)]),sm 7 10,so 11 (.ext (T 7) 0),so 12 (.ext (T 7) 1),sm 5 11,sm 6 12])
 (.seq (.reg [sm 13 5,so 14 (.call true Zdk [(T 13)]),sn (.store (some 2) (T 4) (T 14))])
 .ret)))
theorem Zly:Zaj Tryz.prog 15 (Tryz.f92.body.getD .skip)=ZgK:=by kernel_rfl
theorem Zlz:Zaf Tryz.prog Tryz.f92=some [.cell 4 (some 2)]:=by kernel_rfl
def ZlA:SCode :=
 (.seq (.reg [so 4 (.mv (.const (.slice none 0 0)))])
 (.seq (.reg [sm 6 0,so 7 (.len false (T 6)),sm 5 7])
 (.seq (.block 0
 (.loop
 (.seq (.seq (.reg [sm 8 5,sm 9 1,so 10 (.bin .gtr (T 8) (T 9)),sm 11 10,sg 12 (.mv (T 0)) 11 true,sg 13 (.mv (T 5)) 11 true,sg 14 (.bin .sub (T 13) (C 1)) 11 true,sg 15 (.iaddr none (T 12) (T 14)) 11 true,sg 16 (.load none (T 15)) 11 true,sg 17 (.bin .eql (T 16) (C 0)) 11 true,so 18 (.pick (T 11) (T 17) (.const (.bool false)))])
 (.cond (T 18)
 .skip
 (.exit 0)))
 (.block 1
 (.reg [sm 19 5,so 20 (.bin .sub (T 19) (C 1)),sm 5 20])))))
 (.seq (.reg [sm 21 0,sm 22 5,so 23 (.sl none (T 21) none (some (T 22))),sm 4 23])
 .ret))))
theorem Zq3:Zaj Tryz.prog 24 (Tryz.f93.body.getD .skip)=ZlA:=by kernel_rfl
theorem Zq4:Zaf Tryz.prog Tryz.f93=some [.tmp 4]:=by kernel_rfl
def Zhu:SCode :=
 (.seq (.reg [so 2 (.mv (.const (.slice none 0 0)))])
 (.seq (.reg [so 3 (.mv (.const (.slice none 0 0)))])
 (.seq (.seq (.reg [so 4 (.mv (C 0))])
 (.block 0
 (.loop
 (.seq (.seq (.reg [sm 7 4,sm 8 0,so 9 (.len false (T 8)),so 10 (.bin .lss (T 7) (T 9))])
 (.cond (T 10)
 .skip
 (.exit 0)))
 (.block 1
 (.seq (.reg [sm 12 0,sm 13 4,so 14 (.call true Zip [(T 12),(T 13)]),sm 11 14,so 15 (.ext (T 11) 0),so 16 (.ext (T 11) 1),so 5 (.alloc [(.int .i64 (0)),(.int .i64 (0)),(.int .i64 (0))]),sn (.store (some 3) (T 5) (T 15)),sm 6 16])
 (.seq (.reg [sm 17 3,so 18 (.load (some 3) (T 5)),so 19 (.bslice (some 3) [(T 18)]),so 20 (.app (some 3) 24 (T 17) (T 19)),sm 3 20])
 (.reg [sm 21 4,sm 22 6,so 23 (.bin .add (T 21) (T 22)),sm 4 23]))))))))
 (.seq (.reg [sm 24 3,sm 2 24])
 .ret))))
theorem Zmr:Zaj Tryz.prog 25 (Tryz.f94.body.getD .skip)=Zhu:=by kernel_rfl
theorem Zms:Zaf Tryz.prog Tryz.f94=some [.tmp 2]:=by kernel_rfl
def Zfk:SCode :=
 (.seq (.reg [so 2 (.alloc [(.slice none 0 0),(.slice none 0 0)])])
 (.seq (.reg [so 6 (.mks none 8 [(.int .i64 (0))] (C 19) (C 19)),sm 3 6])
 (.seq (.seq (.reg [sm 7 0,so 8 (.len false (T 7)),so 9 (.mv (C 0))])
 (.block 0
 (.loop
 (.seq (.reg [so 10 (.bin .lss (T 9) (T 8))])
 (.seq (.cond (T 10)
 .skip
 (.exit 0))
 (.seq (.block 1
 (.seq (.reg [so 11 (.iaddr (some 3) (T 7) (T 9)),so 12 (.load (some 3) (T 11)),so 5 (.alloc [(.int .i64 (0)),(.int .i64 (0)),(.int .i64 (0))]),sn (.store (some 3) (T 5) (T 12))])
 (.reg [sm 13 3,so 14 (.faddr 0 (T 5)),so 15 (.load none (T 14)),so 16 (.iaddr none (T 13) (T 15)),so 17 (.load none (T 16)),so 18 (.bin .add (T 17) (C 1)),so 19 (.iaddr none (T 13) (T 15)),sn (.store none (T 19) (T 18))])))
 (.reg [so 20 (.bin .add (T 9) (C 1)),sm 9 20])))))))
 (.seq (.reg [sm 21 3,so 22 (.call true Zcx [(T 21),(C 7)]),sn (.store (some 2) (T 2) (T 22))])
 .ret))))
theorem Zj4:Zaj Tryz.prog 23 (Tryz.f95.body.getD .skip)=Zfk:=by kernel_rfl
theorem Zj5:Zaf Tryz.prog Tryz.f95=some [.cell 2 (some 2)]:=by kernel_rfl
def Zhv:SCode :=
 (.seq (.seq (.reg [sm 4 0,so 5 (.nilc (T 4)),so 6 (.faddr 1 (T 5)),so 7 (.load none (T 6)),so 8 (.bin .rem (T 7) (C 8)),so 9 (.bin .eql (T 8) (C 0))])
 (.cond (T 9)
 (.reg [sm 10 0,sm 11 0,so 12 (.nilc (T 11)),so 13 (.faddr 0 (T 12)),so 14 (.load none (T 13)),so 15 (.bslice none [(.const (.int .u8 (0)))]),so 16 (.app none 1 (T 14) (T 15)),so 17 (.nilc (T 10)),so 18 (.faddr 0 (T 17)),sn (.store none (T 18) (T 16))])
 .skip))
 (.seq (.reg [sm 19 0,so 20 (.nilc (T 19)),so 21 (.faddr 0 (T 20)),so 22 (.load none (T 21)),sm 23 0,so 24 (.nilc (T 23)),so 25 (.faddr 1 (T 24)),so 26 (.load none (T 25)),so 27 (.bin .quo (T 26) (C 8)),so 28 (.iaddr none (T 22) (T 27)),so 29 (.load none (T 28)),sm 30 1,sm 31 0,so 32 (.nilc (T 31)),so 33 (.faddr 1 (T 32)),so 34 (.load none (T 33)),so 35 (.bin .rem (T 34) (C 8)),so 36 (.bin .shl (T 30) (T 35)),so 37 (.ci .u8 (T 36)),so 38 (.bin .or (T 29) (T 37)),so 39 (.iaddr none (T 22) (T 27)),sn (.store none (T 39) (T 38))])
 (.reg [sm 40 0,so 41 (.nilc (T 40)),so 42 (.faddr 1 (T 41)),so 43 (.load none (T 42)),so 44 (.bin .add (T 43) (C 1)),so 45 (.nilc (T 40)),so 46 (.faddr 1 (T 45)),sn (.store none (T 46) (T 44))])))
theorem Zmt:Zaj Tryz.prog 47 (Tryz.f121.body.getD .skip)=Zhv:=by kernel_rfl
theorem Zmu:Zaf Tryz.prog Tryz.f121=some []:=by kernel_rfl
def ZgL:SCode :=
 (.seq (.seq (.reg [sm 7 2,so 8 (.bin .lss (T 7) (C 0)),sm 9 8,sg 10 (.mv (T 2)) 9 false,sg 11 (.bin .gtr (T 10) (C 15)) 9 false,so 12 (.pick (T 9) (.const (.bool true)) (T 11))])
 (.cond (T 12)
 .ret
 .skip))
 (.seq (.reg [sm 13 2,so 14 (.mv (C 0))])
 (.block 0
 (.loop
 (.seq (.reg [so 15 (.bin .lss (T 14) (T 13))])
 (.seq (.cond (T 15)
 .skip
 (.exit 0))
 (.seq (.block 1
 (.seq (.reg [sm 16 14,sm 6 16])
 (.reg [sm 17 0,sm 18 1,sm 19 2,so 20 (.bin .sub (T 19) (C 1)),sm 21 6,so 22 (.bin .sub (T 20) (T 21)),so 23 (.bin .shr (T 18) (T 22)),so 24 (.bin .and (T 23) (C 1)),so 25 (.call true ZeD [(T 17),(T 24)])])))
 (.reg [so 26 (.bin .add (T 14) (C 1)),sm 14 26]))))))))
theorem ZlB:Zaj Tryz.prog 27 (Tryz.f122.body.getD .skip)=ZgL:=by kernel_rfl
theorem ZlC:Zaf Tryz.prog Tryz.f122=some []:=by kernel_rfl
def ZgM:SCode :=
 (.seq (.reg [so 4 (.alloc [(.int .i64 (0)),(.int .i64 (0)),(.int .i64 (0))])])
 (.seq (.reg [sm 6 0,so 7 (.ci .u64 (T 6)),so 8 (.call true Zp9 [(T 7)]),so 9 (.bin .sub (T 8) (C 1)),sm 10 1,so 11 (.bin .sub (T 9) (T 10)),so 12 (.mm true (C 0) [(T 11)]),sm 5 12])
 (.seq (.reg [sm 13 5,sm 14 1,so 15 (.bin .shl (T 13) (T 14)),sm 16 0,sm 17 5,so 18 (.bin .shr (T 16) (T 17)),so 19 (.bin .add (T 15) (T 18)),sm 20 0,sm 21 5,so 22 (.build [(.int .i64 (0)),(.int .i64 (0)),(.int .i64 (0))] [(0,1,(T 19)),(1,1,(T 20)),(2,1,(T 21))]),sn (.store (some 3) (T 4) (T 22))])
 .ret)))
theorem ZlD:Zaj Tryz.prog 23 (Tryz.f123.body.getD .skip)=ZgM:=by kernel_rfl
theorem ZlE:Zaf Tryz.prog Tryz.f123=some [.cell 4 (some 3)]:=by kernel_rfl
def Zm5:SCode :=
 (.seq (.reg [so 2 (.mv (.const (.slice none 0 0))),so 3 (.mv (C 0))])
 (.seq (.seq (.reg [sm 9 0,so 10 (.call true Zgq [(T 9)]),sm 4 10])
 (.seq (.reg [sm 11 4,so 12 (.bin .neq (T 11) (C 0))])
 (.cond (T 12)
 (.seq (.reg [sm 13 4,so 2 (.mv (.const (.slice none 0 0))),sm 3 13])
 .ret)
 .skip)))
 (.seq (.reg [sm 14 0,so 15 (.call true Ze2 [(T 14)]),so 5 (.alloc (List.replicate 16 (.int .i64 (0)))),sn (.store (some 16) (T 5) (T 15))])
 (.seq (.reg [sm 16 0,so 17 (.len false (T 16)),so 18 (.mks none 8 [(.int .i64 (0))] (T 17) (T 17)),sm 6 18])
 (.seq (.seq (.reg [sm 19 0,so 20 (.len false (T 19)),so 21 (.mv (C 0))])
 (.block 0
 (.loop
 (.seq (.reg [so 22 (.bin .lss (T 21) (T 20))])
 (.seq (.cond (T 22)
 .skip
 (.exit 0))
 (.seq (.block 1
 (.seq (.reg [sm 23 21,so 24 (.iaddr none (T 19) (T 21)),so 25 (.load none (T 24)),sm 7 23,sm 8 25])
 (.seq (.reg [sm 26 8,so 27 (.bin .gtr (T 26) (C 0))])
 (.cond (T 27)
 (.seq (.reg [sm 28 6,sm 29 7,sm 30 8,so 31 (.iaddrA 16 none (T 5) (T 30)),so 32 (.load none (T 31)),so 33 (.iaddr none (T 28) (T 29)),sn (.store none (T 33) (T 32))])
 (.reg [sm 34 8,so 35 (.iaddrA 16 none (T 5) (T 34)),so 36 (.load none (T 35)),so 37 (.bin .add (T 36) (C 1)),so 38 (.iaddrA 16 none (T 5) (T 34)),sn (.store none (T 38) (T 37))]))
 .skip))))
 (.reg [so 39 (.bin .add (T 21) (C 1)),sm 21 39])))))))
 (.seq (.reg [sm 40 6,sm 2 40,so 3 (.mv (C 0))])
 .ret))))))
theorem Zsu:Zaj Tryz.prog 41 (Tryz.f124.body.getD .skip)=Zm5:=by kernel_rfl
theorem Zsv:Zaf Tryz.prog Tryz.f124=some [.tmp 2,.tmp 3]:=by kernel_rfl
def Zde:SCode :=
 (.seq (.reg [so 4 (.mv (C 0))])
 (.seq (.seq (.reg [sm 10 0,sm 11 1,so 12 (.call true ZbN [(T 10),(T 11)]),sm 9 12,so 13 (.ext (T 9) 0),so 14 (.ext (T 9) 1),so 5 (.alloc [(.int .u8 (0)),(.int .u8 (0)),(.int .u8 (0))]),sn (.store (some 3) (T 5) (T 13)),sm 6 14])
 (.seq (.reg [sm 15 6])
 (.cond (T 15)
 (.seq (.reg [sm 17 0,so 18 (.nilc (T 17)),so 19 (.faddr 1 (T 18)),so 20 (.load none (T 19)),so 21 (.load (some 3) (T 5)),so 22 (.mget true (.agg #[(.int .u8 (0)),(.int .u8 (0)),(.int .u8 (0))]) (.int .i64 (0)) (T 20) (T 21)),sm 16 22,so 23 (.ext (T 16) 0),so 24 (.ext (T 16) 1),sm 7 23,sm 8 24])
 (.seq (.reg [sm 25 8])
 (.cond (T 25)
 (.seq (.reg [sm 26 7,sm 4 26])
 .ret)
 .skip)))
 .skip)))
 (.seq (.reg [so 4 (.mv (C (-32769)))])
 .ret)))
theorem ZgY:Zaj Tryz.prog 27 (Tryz.f127.body.getD .skip)=Zde:=by kernel_rfl
theorem ZgZ:Zaf Tryz.prog Tryz.f127=some [.tmp 4]:=by kernel_rfl
def Zeq:SCode :=
 (.seq (.reg [so 8 (.mv (C 0))])
 (.seq (.reg [so 9 (.mv (C 0))])
 (.seq (.block 0
 (.loop
 (.seq (.seq (.reg [sm 10 9,sm 11 3,so 12 (.bin .lss (T 10) (T 11)),sm 13 12,sg 14 (.mv (T 0)) 13 true,sg 15 (.nilc (T 14)) 13 true,sg 16 (.faddr 0 (T 15)) 13 true,sg 17 (.load none (T 16)) 13 true,sg 18 (.mv (T 1)) 13 true,sg 19 (.mv (T 9)) 13 true,sg 20 (.bin .add (T 18) (T 19)) 13 true,sg 21 (.iaddr none (T 17) (T 20)) 13 true,sg 22 (.load none (T 21)) 13 true,sg 23 (.mv (T 0)) 13 true,sg 24 (.nilc (T 23)) 13 true,sg 25 (.faddr 0 (T 24)) 13 true,sg 26 (.load none (T 25)) 13 true,sg 27 (.mv (T 2)) 13 true,sg 28 (.mv (T 9)) 13 true,sg 29 (.bin .add (T 27) (T 28)) 13 true,sg 30 (.iaddr none (T 26) (T 29)) 13 true,sg 31 (.load none (T 30)) 13 true,sg 32 (.bin .eql (T 22) (T 31)) 13 true,so 33 (.pick (T 13) (T 32) (.const (.bool false)))])
 (.cond (T 33)
 .skip
 (.exit 0)))
 (.block 1
 (.reg [sm 34 9,so 35 (.bin .add (T 34) (C 1)),sm 9 35])))))
 (.seq (.reg [sm 36 9,sm 8 36])
 .ret))))
theorem ZiL:Zaj Tryz.prog 37 (Tryz.f128.body.getD .skip)=Zeq:=by kernel_rfl
theorem ZiM:Zaf Tryz.prog Tryz.f128=some [.tmp 8]:=by kernel_rfl
def Zer:SCode :=
 (.seq (.reg [so 4 (.alloc [(.int .u8 (0)),(.int .u8 (0)),(.int .u8 (0))]),so 5 (.mv (.const (.bool false)))])
 (.seq (.reg [so 6 (.alloc [(.int .u8 (0)),(.int .u8 (0)),(.int .u8 (0))])])
 (.seq (.seq (.reg [sm 7 1,so 8 (.bin .lss (T 7) (C 0)),sm 9 8,sg 10 (.mv (T 0)) 9 false,sg 11 (.nilc (T 10)) 9 false,sg 12 (.faddr 0 (T 11)) 9 false,sg 13 (.load none (T 12)) 9 false,sg 14 (.len false (T 13)) 9 false,sg 15 (.mv (T 1)) 9 false,sg 16 (.bin .sub (T 14) (T 15)) 9 false,sg 17 (.bin .lss (T 16) (C 3)) 9 false,so 18 (.pick (T 9) (.const (.bool true)) (T 17))])
 (.cond (T 18)
 (.seq (.reg [so 19 (.load (some 3) (T 6)),sn (.store (some 3) (T 4) (T 19)),so 5 (.mv (.const (.bool false)))])
 .ret)
 .skip))
 (.seq (.reg [so 20 (.sla 3 none (T 6) none none),sm 21 0,so 22 (.nilc (T 21)),so 23 (.faddr 0 (T 22)),so 24 (.load none (T 23)),sm 25 1,so 26 (.sl none (T 24) (some (T 25)) none),so 27 (.copy (T 20) (T 26))])
 (.seq (.reg [so 28 (.load (some 3) (T 6)),sn (.store (some 3) (T 4) (T 28)),so 5 (.mv (.const (.bool true)))])
 .ret)))))
theorem ZiN:Zaj Tryz.prog 29 (Tryz.f129.body.getD .skip)=Zer:=by kernel_rfl
theorem ZiO:Zaf Tryz.prog Tryz.f129=some [.cell 4 (some 3),.tmp 5]:=by kernel_rfl
def Zke:SCode :=
 (.seq (.reg [so 4 (.mv (.const (.slice none 0 0))),so 5 (.mv (C 0))])
 (.seq (.seq (.reg [sm 14 1,so 15 (.bin .lss (T 14) (C 1)),sm 16 15,sg 17 (.mv (T 1)) 16 false,sg 18 (.bin .gtr (T 17) (C 15)) 16 false,so 19 (.pick (T 16) (.const (.bool true)) (T 18))])
 (.cond (T 19)
 (.seq (.reg [so 4 (.mv (.const (.slice none 0 0))),so 5 (.mv (C 1))])
 .ret)
 .skip))
 (.seq (.seq (.reg [sm 20 0,so 21 (.len false (T 20)),so 22 (.bin .gtr (T 21) (C 320))])
 (.cond (T 22)
 (.seq (.reg [so 4 (.mv (.const (.slice none 0 0))),so 5 (.mv (C 4))])
 .ret)
 .skip))
 (.seq (.reg [so 6 (.mv (.const (.slice none 0 0)))])
 (.seq (.seq (.reg [sm 23 0,so 24 (.len false (T 23)),so 25 (.mv (C 0))])
 (.block 0
 (.loop
 (.seq (.reg [so 26 (.bin .lss (T 25) (T 24))])
 (.seq (.cond (T 26)
 .skip
 (.exit 0))
 (.seq (.block 1
 (.seq (.reg [sm 27 25,so 28 (.iaddr none (T 23) (T 25)),so 29 (.load none (T 28)),sm 7 27,sm 8 29])
 (.seq (.seq (.reg [sm 30 8,so 31 (.bin .lss (T 30) (C 0)),sm 32 31,sg 33 (.mv (T 8)) 32 false,sg 34 (.bin .gtr (T 33) (C 4294967296)) 32 false,so 35 (.pick (T 32) (.const (.bool true)) (T 34))])
 (.cond (T 35)
 (.seq (.reg [so 4 (.mv (.const (.slice none 0 0))),so 5 (.mv (C 1))])
 .ret)
 .skip))
 (.seq (.reg [sm 36 8,so 37 (.bin .gtr (T 36) (C 0))])
 (.cond (T 37)
 (.reg [sm 38 6,sm 39 8,sm 40 7,so 41 (.bslice none [(T 40)]),so 42 (.build [(.int .i64 (0)),(.slice none 0 0)] [(0,1,(T 39)),(1,1,(T 41))]),so 43 (.bslice (some 2) [(T 42)]),so 44 (.app (some 2) 32 (T 38) (T 43)),sm 6 44])
 .skip)))))
 (.reg [so 45 (.bin .add (T 25) (C 1)),sm 25 45])))))))
 (.seq (.seq (.reg [sm 46 6,so 47 (.len false (T 46)),sm 48 1,so 49 (.bin .shl (C 1) (T 48)),so 50 (.bin .gtr (T 47) (T 49))])
 (.cond (T 50)
 (.seq (.reg [so 4 (.mv (.const (.slice none 0 0))),so 5 (.mv (C 4))])
 .ret)
 .skip))
 (.seq (.reg [sm 51 0,so 52 (.len false (T 51)),so 53 (.mks none 8 [(.int .i64 (0))] (T 52) (T 52)),sm 9 53])
 (.seq (.seq (.reg [sm 54 6,sm 55 1,so 56 (.call true Zi2 [(T 54),(T 55)]),so 57 (.len false (T 56)),so 58 (.mv (C 0))])
 (.block 2
 (.loop
 (.seq (.reg [so 59 (.bin .lss (T 58) (T 57))])
 (.seq (.cond (T 59)
 .skip
 (.exit 2))
 (.seq (.block 3
 (.seq (.reg [so 60 (.iaddr (some 2) (T 56) (T 58)),so 61 (.load (some 2) (T 60)),so 11 (.alloc [(.int .i64 (0)),(.slice none 0 0)]),sn (.store (some 2) (T 11) (T 61))])
 (.seq (.reg [so 62 (.faddr 1 (T 11)),so 63 (.load none (T 62)),so 64 (.len false (T 63)),so 65 (.mv (C 0))])
 (.block 4
 (.loop
 (.seq (.reg [so 66 (.bin .lss (T 65) (T 64))])
 (.seq (.cond (T 66)
 .skip
 (.exit 4))
 (.seq (.block 5
 (.seq (.reg [so 67 (.iaddr none (T 63) (T 65)),so 68 (.load none (T 67)),sm 13 68])
 (.reg [sm 69 9,sm 70 13,so 71 (.iaddr none (T 69) (T 70)),so 72 (.load none (T 71)),so 73 (.bin .add (T 72) (C 1)),so 74 (.iaddr none (T 69) (T 70)),sn (.store none (T 74) (T 73))])))
 (.reg [so 75 (.bin .add (T 65) (C 1)),sm 65 75])))))))))
 (.reg [so 76 (.bin .add (T 58) (C 1)),sm 58 76])))))))
 (.seq (.reg [sm 77 9,sm 4 77,so 5 (.mv (C 0))])
 .ret)))))))))
theorem Zpu:Zaj Tryz.prog 78 (Tryz.f130.body.getD .skip)=Zke:=by kernel_rfl
theorem Zpv:Zaf Tryz.prog Tryz.f130=some [.tmp 4,.tmp 5]:=by kernel_rfl
def ZiB:SCode :=
 (.seq (.reg [so 4 (.alloc [(.int .i64 (0)),(.int .i64 (0)),(.int .i64 (0))]),so 5 (.mv (C 0))])
 (.seq (.reg [so 6 (.mv (C 1))])
 (.seq (.block 0
 (.loop
 (.seq (.seq (.reg [sm 7 1,sm 8 6,so 9 (.bin .add (T 7) (T 8)),sm 10 0,so 11 (.len false (T 10)),so 12 (.bin .lss (T 9) (T 11)),sm 13 12,sg 14 (.mv (T 0)) 13 true,sg 15 (.mv (T 1)) 13 true,sg 16 (.mv (T 6)) 13 true,sg 17 (.bin .add (T 15) (T 16)) 13 true,sg 18 (.iaddr none (T 14) (T 17)) 13 true,sg 19 (.load none (T 18)) 13 true,sg 20 (.mv (T 0)) 13 true,sg 21 (.mv (T 1)) 13 true,sg 22 (.iaddr none (T 20) (T 21)) 13 true,sg 23 (.load none (T 22)) 13 true,sg 24 (.bin .eql (T 19) (T 23)) 13 true,so 25 (.pick (T 13) (T 24) (.const (.bool false)))])
 (.cond (T 25)
 .skip
 (.exit 0)))
 (.block 1
 (.reg [sm 26 6,so 27 (.bin .add (T 26) (C 1)),sm 6 27])))))
 (.seq (.block 2
 (.seq (.reg [sm 29 0,sm 30 1,so 31 (.iaddr none (T 29) (T 30)),so 32 (.load none (T 31)),so 33 (.bin .eql (T 32) (C 0)),sm 34 33,sg 35 (.mv (T 6)) 34 true,sg 36 (.bin .geq (T 35) (C 11)) 34 true,so 37 (.pick (T 34) (T 36) (.const (.bool false))),sm 28 37])
 (.cond (T 28)
 (.seq (.reg [sm 38 6,so 39 (.mm false (T 38) [(C 138)]),sm 6 39])
 (.seq (.reg [sm 40 6,so 41 (.bin .sub (T 40) (C 11)),so 42 (.build [(.int .i64 (0)),(.int .i64 (0)),(.int .i64 (0))] [(0,1,(C 18)),(1,1,(T 41)),(2,1,(C 7))]),sm 43 6,sn (.store (some 3) (T 4) (T 42)),sm 5 43])
 .ret))
 (.seq (.reg [sm 45 0,sm 46 1,so 47 (.iaddr none (T 45) (T 46)),so 48 (.load none (T 47)),so 49 (.bin .eql (T 48) (C 0)),sm 50 49,sg 51 (.mv (T 6)) 50 true,sg 52 (.bin .geq (T 51) (C 3)) 50 true,so 53 (.pick (T 50) (T 52) (.const (.bool false))),sm 44 53])
 (.cond (T 44)
 (.seq (.reg [sm 54 6,so 55 (.mm false (T 54) [(C 10)]),sm 6 55])
 (.seq (.reg [sm 56 6,so 57 (.bin .sub (T 56) (C 3)),so 58 (.build [(.int .i64 (0)),(.int .i64 (0)),(.int .i64 (0))] [(0,1,(C 17)),(1,1,(T 57)),(2,1,(C 3))]),sm 59 6,sn (.store (some 3) (T 4) (T 58)),sm 5 59])
 .ret))
 (.seq (.reg [sm 61 1,so 62 (.bin .gtr (T 61) (C 0)),sm 63 62,sg 64 (.mv (T 0)) 63 true,sg 65 (.mv (T 1)) 63 true,sg 66 (.iaddr none (T 64) (T 65)) 63 true,sg 67 (.load none (T 66)) 63 true,sg 68 (.mv (T 0)) 63 true,sg 69 (.mv (T 1)) 63 true,sg 70 (.bin .sub (T 69) (C 1)) 63 true,sg 71 (.iaddr none (T 68) (T 70)) 63 true,sg 72 (.load none (T 71)) 63 true,sg 73 (.bin .eql (T 67) (T 72)) 63 true,so 74 (.pick (T 63) (T 73) (.const (.bool false))),sm 75 74,sg 76 (.mv (T 6)) 75 true,sg 77 (.bin .geq (T 76) (C 3)) 75 true,so 78 (.pick (T 75) (T 77) (.const (.bool false))),sm 60 78])
 (.cond (T 60)
 (.seq (.reg [sm 79 6,so 80 (.mm false (T 79) [(C 6)]),sm 6 80])
 (.seq (.reg [sm 81 6,so 82 (.bin .sub (T 81) (C 3)),so 83 (.build [(.int .i64 (0)),(.int .i64 (0)),(.int .i64 (0))] [(0,1,(C 16)),(1,1,(T 82)),(2,1,(C 2))]),sm 84 6,sn (.store (some 3) (T 4) (T 83)),sm 5 84])
 .ret))
 .skip)))))))
 (.seq (.reg [sm 85 0,sm 86 1,so 87 (.iaddr none (T 85) (T 86)),so 88 (.load none (T 87)),so 89 (.build [(.int .i64 (0)),(.int .i64 (0)),(.int .i64 (0))] [(0,1,(T 88))]),sn (.store (some 3) (T 4) (T 89)),so 5 (.mv (C 1))])
 .ret)))))
theorem Znz:Zaj Tryz.prog 90 (Tryz.f131.body.getD .skip)=ZiB:=by kernel_rfl
theorem ZnA:Zaf Tryz.prog Tryz.f131=some [.cell 4 (some 3),.tmp 5]:=by kernel_rfl
def Zqd:SCode :=
 (.seq (.reg [so 2 (.mv (C 0))])
 (.seq (.cond (.const (.bool false))
 (.seq (.reg [sm 3 0,so 4 (.ci .u32 (T 3)),so 5 (.call true Zsk [(T 4)]),sm 2 5])
 .ret)
 .skip)
 (.seq (.reg [sm 6 0,so 7 (.call true ZmX [(T 6)]),sm 2 7])
 .ret)))
theorem Zx2:Zaj Tryz.prog 8 (Tryz.f146.body.getD .skip)=Zqd:=by kernel_rfl
theorem Zx3:Zaf Tryz.prog Tryz.f146=some [.tmp 2]:=by kernel_rfl
def Zm6:SCode :=
 (.seq (.reg [so 2 (.mv (C 0))])
 (.seq (.seq (.reg [sm 3 0,so 4 (.bin .geq (T 3) (.const (.int .u64 (4294967296))))])
 (.cond (T 4)
 (.seq (.reg [sm 5 0,so 6 (.bin .shr (T 5) (.const (.int .u64 (32)))),sm 0 6])
 (.reg [so 2 (.mv (C 32))]))
 .skip))
 (.seq (.seq (.reg [sm 7 0,so 8 (.bin .geq (T 7) (.const (.int .u64 (65536))))])
 (.cond (T 8)
 (.seq (.reg [sm 9 0,so 10 (.bin .shr (T 9) (.const (.int .u64 (16)))),sm 0 10])
 (.reg [sm 11 2,so 12 (.bin .add (T 11) (C 16)),sm 2 12]))
 .skip))
 (.seq (.seq (.reg [sm 13 0,so 14 (.bin .geq (T 13) (.const (.int .u64 (256))))])
 (.cond (T 14)
 (.seq (.reg [sm 15 0,so 16 (.bin .shr (T 15) (.const (.int .u64 (8)))),sm 0 16])
 (.reg [sm 17 2,so 18 (.bin .add (T 17) (C 8)),sm 2 18]))
 .skip))
 (.seq (.reg [sm 19 2,sm 20 0,so 21 (.ci .u8 (T 20)),so 22 (.idxS (.const (.string ⟨#[0,1,2,2,3,3,3,3,4,4,4,4,4,4,4,4,5,5,5,5,5,5,5,5,5,5,5,5,5,5,5,5,6,6,6,6,6,6,6,6,6,6,6,6,6,6,6,6,6,6,6,6,6,6,6,6,6,6,6,6,6,6,6,6,7,7,7,7,7,7,7,7,7,7,7,7,7,7,7,7,7,7,7,7,7,7,7,7,7,7,7,7,7,7,7,7,7,7,7,7,7,7,7,7,7,7,7,7,7,7,7,7,7,7,7,7,7,7,7,7,7,7,7,7,7,7,7,7,8,8,8,8,8,8,8,8,8,8,8,8,8,8,8,8,8,8,8,8,8,8,8,8,8,8,8,8,8,8,8,8,8,8,8,8,8,8,8,8,8,8,8,8,8,8,8,8,8,8,8,8,8,8,8,8,8,8,8,8,8,8,8,8,8,8,8,8,8,8,8,8,8,8,8,8,8,8,8,8,8,8,8,8,8,8,8,8,8,8,8,8,8,8,8,8,8,8,8,8,8,8,8,8,8,8,8,8,8,8,8,8,8,8,8,8,8,8,8,8,8,8,8,8,8,8,8,8]⟩)) (T 21)),so 23 (.ci .i64 (T 22)),so 24 (.bin .add (T 19) (T 23)),sm 2 24])
 .ret)))))
theorem Zsw:Zaj Tryz.prog 25 (Tryz.f152.body.getD .skip)=Zm6:=by kernel_rfl
theorem Zsx:Zaf Tryz.prog Tryz.f152=some [.tmp 2]:=by kernel_rfl
def Zjb:SCode :=
 (.seq (.reg [so 4 (.mv (.const (.slice none 0 0)))])
 (.seq (.seq (.reg [sm 6 0,so 7 (.len false (T 6)),so 8 (.bin .lss (T 7) (C 2))])
 (.cond (T 8)
 (.seq (.reg [sm 9 0,sm 4 9])
 .ret)
 .skip))
 (.seq (.reg [sm 10 0,so 11 (.call true ZaE [(T 10),(.func Zbp)])])
 (.seq (.reg [sm 12 0,sm 5 12])
 (.seq (.seq (.reg [sm 13 1,so 14 (.bin .sub (T 13) (C 1)),so 15 (.mv (C 0))])
 (.block 0
 (.loop
 (.seq (.reg [so 16 (.bin .lss (T 15) (T 14))])
 (.seq (.cond (T 16)
 .skip
 (.exit 0))
 (.seq (.block 1
 (.seq (.reg [sm 17 0,sm 18 5,so 19 (.call true Zm0 [(T 18)]),so 20 (.bslice none [(T 17),(T 19)]),so 21 (.call true ZbJ [(T 20)]),sm 5 21])
 (.reg [sm 22 5,so 23 (.call true ZaE [(T 22),(.func Zbp)])])))
 (.reg [so 24 (.bin .add (T 15) (C 1)),sm 15 24])))))))
 (.seq (.reg [sm 25 5,sm 26 0,so 27 (.len false (T 26)),so 28 (.bin .mul (C 2) (T 27)),so 29 (.bin .sub (T 28) (C 2)),so 30 (.sl (some 2) (T 25) none (some (T 29))),sm 4 30])
 .ret))))))
theorem ZoD:Zaj Tryz.prog 31 (Tryz.f149.body.getD .skip)=Zjb:=by kernel_rfl
theorem ZoE:Zaf Tryz.prog Tryz.f149=some [.tmp 4]:=by kernel_rfl
def Zbf:SCode :=
 (.reg [sm 4 0,sm 5 0,so 6 (.len false (T 5)),sm 7 1,so 8 (.call true Zb2 [(T 4),(T 6),(T 7)])])
theorem Zck:Zaj Tryz.prog 9 (Tryz.f153.body.getD .skip)=Zbf:=by kernel_rfl
theorem Zcl:Zaf Tryz.prog Tryz.f153=some []:=by kernel_rfl
def Zkf:SCode :=
 (.seq (.reg [so 2 (.box (T 0)),so 3 (.box (T 1)),so 4 (.mv (C 0))])
 (.seq (.reg [so 5 (.faddr 0 (T 2)),so 6 (.load none (T 5)),so 7 (.faddr 0 (T 3)),so 8 (.load none (T 7)),so 9 (.call true Zio [(T 6),(T 8)]),sm 4 9])
 .ret))
theorem Zpw:Zaj Tryz.prog 10 (Tryz.f154.body.getD .skip)=Zkf:=by kernel_rfl
theorem Zpx:Zaf Tryz.prog Tryz.f154=some [.tmp 4]:=by kernel_rfl
def ZbK:SCode :=
 (.seq (.reg [so 2 (.mv (.const (.slice none 0 0)))])
 (.seq (.reg [so 3 (.mv (C 0))])
 (.seq (.seq (.reg [sm 9 0,so 10 (.len false (T 9)),so 11 (.mv (C 0))])
 (.block 0
 (.loop
 (.seq (.reg [so 12 (.bin .lss (T 11) (T 10))])
 (.seq (.cond (T 12)
 .skip
 (.exit 0))
 (.seq (.block 1
 (.seq (.reg [so 13 (.iaddr none (T 9) (T 11)),so 14 (.load none (T 13)),sm 5 14])
 (.seq (.reg [sm 15 3,sm 16 5,so 17 (.len false (T 16)),so 18 (.bin .add (T 15) (T 17)),sm 3 18])
 (.seq (.reg [sm 19 3,so 20 (.bin .lss (T 19) (C 0))])
 (.cond (T 20)
 (.reg [so 21 (.no),sn (.no)])
 .skip)))))
 (.reg [so 22 (.bin .add (T 11) (C 1)),sm 11 22])))))))
 (.seq (.reg [sm 23 3,so 24 (.call true ZbU [(.const (.slice none 0 0)),(T 23)]),sm 6 24])
 (.seq (.seq (.reg [sm 25 0,so 26 (.len false (T 25)),so 27 (.mv (C 0))])
 (.block 2
 (.loop
 (.seq (.reg [so 28 (.bin .lss (T 27) (T 26))])
 (.seq (.cond (T 28)
 .skip
 (.exit 2))
 (.seq (.block 3
 (.seq (.reg [so 29 (.iaddr none (T 25) (T 27)),so 30 (.load none (T 29)),sm 8 30])
 (.reg [sm 31 6,sm 32 8,so 33 (.app (some 2) 32 (T 31) (T 32)),sm 6 33])))
 (.reg [so 34 (.bin .add (T 27) (C 1)),sm 27 34])))))))
 (.seq (.reg [sm 35 6,sm 2 35])
 .ret))))))
theorem Zds:Zaj Tryz.prog 36 (Tryz.f155.body.getD .skip)=ZbK:=by kernel_rfl
theorem Zdt:Zaf Tryz.prog Tryz.f155=some [.tmp 2]:=by kernel_rfl
def Zm7:SCode :=
 (.seq (.reg [so 2 (.mv (.const (.slice none 0 0)))])
 (.seq (.reg [so 3 (.mv (.const (.slice none 0 0)))])
 (.seq (.seq (.reg [so 4 (.mv (C 1))])
 (.block 0
 (.loop
 (.seq (.seq (.reg [sm 7 4,sm 8 0,so 9 (.len false (T 8)),so 10 (.bin .lss (T 7) (T 9))])
 (.cond (T 10)
 .skip
 (.exit 0)))
 (.seq (.block 1
 (.seq (.reg [sm 13 0,sm 14 4,so 15 (.bin .sub (T 14) (C 1)),so 16 (.iaddr (some 2) (T 13) (T 15)),so 17 (.load (some 2) (T 16)),sm 18 0,sm 19 4,so 20 (.iaddr (some 2) (T 18) (T 19)),so 21 (.load (some 2) (T 20)),so 5 (.alloc [(.int .i64 (0)),(.slice none 0 0)]),sn (.store (some 2) (T 5) (T 17)),so 6 (.alloc [(.int .i64 (0)),(.slice none 0 0)]),sn (.store (some 2) (T 6) (T 21))])
 (.reg [sm 22 3,so 23 (.faddr 0 (T 5)),so 24 (.load none (T 23)),so 25 (.faddr 0 (T 6)),so 26 (.load none (T 25)),so 27 (.bin .add (T 24) (T 26)),so 28 (.faddr 1 (T 5)),so 29 (.load none (T 28)),so 30 (.faddr 1 (T 6)),so 31 (.load none (T 30)),so 32 (.bslice none [(T 29),(T 31)]),so 33 (.call false Za6 [(T 32)]),so 34 (.build [(.int .i64 (0)),(.slice none 0 0)] [(0,1,(T 27)),(1,1,(T 33))]),so 35 (.bslice (some 2) [(T 34)]),so 36 (.app (some 2) 32 (T 22) (T 35)),sm 3 36])))
 (.reg [sm 11 4,so 12 (.bin .add (T 11) (C 2)),sm 4 12]))))))
 (.seq (.reg [sm 37 3,sm 2 37])
 .ret))))
theorem Zsy:Zaj Tryz.prog 38 (Tryz.f156.body.getD .skip)=Zm7:=by kernel_rfl
theorem Zsz:Zaf Tryz.prog Tryz.f156=some [.tmp 2]:=by kernel_rfl
def Zb3:SCode :=
 (.seq (.reg [so 6 (.mv (C 20))])
 (.seq (.reg [sm 10 6,so 7 (.mv (C 0)),sm 8 10])
 (.seq (.block 0
 (.loop
 (.seq (.seq (.reg [sm 11 8,sm 12 1,so 13 (.bin .leq (T 11) (T 12))])
 (.cond (T 13)
 .skip
 (.exit 0)))
 (.block 1
 (.seq (.reg [sm 14 0,sm 15 7,sm 16 8,sm 17 2,so 18 (.call true ZaQ [(T 14),(T 15),(T 16),(T 17)])])
 (.seq (.reg [sm 19 8,sm 7 19])
 (.reg [sm 20 8,sm 21 6,so 22 (.bin .add (T 20) (T 21)),sm 8 22])))))))
 (.seq (.reg [sm 23 0,sm 24 7,sm 25 1,sm 26 2,so 27 (.call true ZaQ [(T 23),(T 24),(T 25),(T 26)])])
 (.block 2
 (.loop
 (.seq (.seq (.reg [sm 28 6,sm 29 1,so 30 (.bin .lss (T 28) (T 29))])
 (.cond (T 30)
 .skip
 (.exit 2)))
 (.block 3
 (.seq (.reg [sm 31 6,so 32 (.bin .mul (C 2) (T 31)),so 7 (.mv (C 0)),sm 8 32])
 (.seq (.block 4
 (.loop
 (.seq (.seq (.reg [sm 33 8,sm 34 1,so 35 (.bin .leq (T 33) (T 34))])
 (.cond (T 35)
 .skip
 (.exit 4)))
 (.block 5
 (.seq (.reg [sm 36 0,sm 37 7,sm 38 7,sm 39 6,so 40 (.bin .add (T 38) (T 39)),sm 41 8,sm 42 2,so 43 (.call true Zar [(T 36),(T 37),(T 40),(T 41),(T 42)])])
 (.seq (.reg [sm 44 8,sm 7 44])
 (.reg [sm 45 8,sm 46 6,so 47 (.bin .mul (C 2) (T 46)),so 48 (.bin .add (T 45) (T 47)),sm 8 48])))))))
 (.seq (.seq (.reg [sm 49 7,sm 50 6,so 51 (.bin .add (T 49) (T 50)),sm 9 51])
 (.seq (.reg [sm 52 9,sm 53 1,so 54 (.bin .lss (T 52) (T 53))])
 (.cond (T 54)
 (.reg [sm 55 0,sm 56 7,sm 57 9,sm 58 1,sm 59 2,so 60 (.call true Zar [(T 55),(T 56),(T 57),(T 58),(T 59)])])
 .skip)))
 (.reg [sm 61 6,so 62 (.bin .mul (T 61) (C 2)),sm 6 62]))))))))))))
theorem Zef:Zaj Tryz.prog 63 (Tryz.f157.body.getD .skip)=Zb3:=by kernel_rfl
theorem Zeg:Zaf Tryz.prog Tryz.f157=some []:=by kernel_rfl
def ZiC:SCode :=
 (.seq (.reg [so 4 (.mv (C 0))])
 (.seq (.reg [sm 7 0,so 8 (.call true ZgT [(T 7)]),sm 5 8])
 (.seq (.reg [sm 9 1,so 10 (.call true ZgT [(T 9)]),sm 6 10])
 (.seq (.seq (.reg [sm 11 5])
 (.cond (T 11)
 (.seq (.seq (.reg [sm 12 6])
 (.cond (T 12)
 (.seq (.reg [so 4 (.mv (C 0))])
 .ret)
 .skip))
 (.seq (.reg [so 4 (.mv (C (-1)))])
 .ret))
 .skip))
 (.seq (.seq (.reg [sm 13 6])
 (.cond (T 13)
 (.seq (.reg [so 4 (.mv (C 1))])
 .ret)
 .skip))
 (.seq (.seq (.reg [sm 14 0,sm 15 1,so 16 (.bin .lss (T 14) (T 15))])
 (.cond (T 16)
 (.seq (.reg [so 4 (.mv (C (-1)))])
 .ret)
 .skip))
 (.seq (.seq (.reg [sm 17 0,sm 18 1,so 19 (.bin .gtr (T 17) (T 18))])
 (.cond (T 19)
 (.seq (.reg [so 4 (.mv (C 1))])
 .ret)
 .skip))
 (.seq (.reg [so 4 (.mv (C 0))])
 .ret))))))))
theorem ZnB:Zaj Tryz.prog 20 (Tryz.f158.body.getD .skip)=ZiC:=by kernel_rfl
theorem ZnC:Zaf Tryz.prog Tryz.f158=some [.tmp 4]:=by kernel_rfl
def ZbV:SCode :=
 (.seq (.reg [so 4 (.mv (.const (.slice none 0 0)))])
 (.seq (.seq (.reg [sm 5 1,so 6 (.bin .lss (T 5) (C 0))])
 (.cond (T 6)
 (.reg [so 7 (.no),sn (.no)])
 .skip))
 (.seq (.seq (.reg [sm 8 1,sm 9 0,so 10 (.capn (T 9)),sm 11 0,so 12 (.len false (T 11)),so 13 (.bin .sub (T 10) (T 12)),so 14 (.bin .sub (T 8) (T 13)),sm 1 14])
 (.seq (.reg [sm 15 1,so 16 (.bin .gtr (T 15) (C 0))])
 (.cond (T 16)
 (.reg [sm 17 0,sm 18 0,so 19 (.capn (T 18)),so 20 (.sl (some 2) (T 17) none (some (T 19))),sm 21 1,so 22 (.appz (some 2) 32 [(.int .i64 (0)),(.slice none 0 0)] (T 20) (T 21)),sm 23 0,so 24 (.len false (T 23)),so 25 (.sl (some 2) (T 22) none (some (T 24))),sm 0 25])
 .skip)))
 (.seq (.reg [sm 26 0,sm 4 26])
 .ret))))
theorem Zd7:Zaj Tryz.prog 27 (Tryz.f159.body.getD .skip)=ZbV:=by kernel_rfl
theorem Zd8:Zaf Tryz.prog Tryz.f159=some [.tmp 4]:=by kernel_rfl
def Zbs:SCode :=
 (.seq (.reg [sm 10 1,so 11 (.bin .add (T 10) (C 1)),sm 8 11])
 (.block 0
 (.loop
 (.seq (.seq (.reg [sm 12 8,sm 13 2,so 14 (.bin .lss (T 12) (T 13))])
 (.cond (T 14)
 .skip
 (.exit 0)))
 (.seq (.block 1
 (.seq (.reg [sm 17 8,sm 9 17])
 (.block 2
 (.loop
 (.seq (.seq (.reg [sm 18 9,sm 19 1,so 20 (.bin .gtr (T 18) (T 19)),sm 21 20,sg 22 (.mv (T 3)) 21 true,sg 23 (.mv (T 0)) 21 true,sg 24 (.mv (T 9)) 21 true,sg 25 (.iaddr (some 2) (T 23) (T 24)) 21 true,sg 26 (.load (some 2) (T 25)) 21 true,sg 27 (.mv (T 0)) 21 true,sg 28 (.mv (T 9)) 21 true,sg 29 (.bin .sub (T 28) (C 1)) 21 true,sg 30 (.iaddr (some 2) (T 27) (T 29)) 21 true,sg 31 (.load (some 2) (T 30)) 21 true,sg 32 (.callv true (T 22) [(T 26),(T 31)]) 21 true,sg 33 (.bin .lss (T 32) (C 0)) 21 true,so 34 (.pick (T 21) (T 33) (.const (.bool false)))])
 (.cond (T 34)
 .skip
 (.exit 2)))
 (.seq (.block 3
 (.reg [sm 37 0,sm 38 9,sm 39 0,sm 40 9,so 41 (.bin .sub (T 40) (C 1)),sm 42 0,sm 43 9,so 44 (.bin .sub (T 43) (C 1)),so 45 (.iaddr (some 2) (T 42) (T 44)),so 46 (.load (some 2) (T 45)),sm 47 0,sm 48 9,so 49 (.iaddr (some 2) (T 47) (T 48)),so 50 (.load (some 2) (T 49)),so 51 (.iaddr (some 2) (T 37) (T 38)),sn (.store (some 2) (T 51) (T 46)),so 52 (.iaddr (some 2) (T 39) (T 41)),sn (.store (some 2) (T 52) (T 50))]))
 (.reg [sm 35 9,so 36 (.bin .sub (T 35) (C 1)),sm 9 36])))))))
 (.reg [sm 15 8,so 16 (.bin .add (T 15) (C 1)),sm 8 16]))))))
theorem ZcM:Zaj Tryz.prog 53 (Tryz.f160.body.getD .skip)=Zbs:=by kernel_rfl
theorem ZcN:Zaf Tryz.prog Tryz.f160=some []:=by kernel_rfl
def ZaH:SCode :=
 (.seq (.seq (.reg [sm 25 2,sm 26 1,so 27 (.bin .sub (T 25) (T 26)),so 28 (.bin .eql (T 27) (C 1))])
 (.cond (T 28)
 (.seq (.reg [sm 29 2,sm 10 29])
 (.seq (.reg [sm 30 3,sm 11 30])
 (.seq (.block 0
 (.loop
 (.seq (.seq (.reg [sm 31 10,sm 32 11,so 33 (.bin .lss (T 31) (T 32))])
 (.cond (T 33)
 .skip
 (.exit 0)))
 (.block 1
 (.seq (.reg [sm 34 10,sm 35 11,so 36 (.bin .add (T 34) (T 35)),so 37 (.ci .u64 (T 36)),so 38 (.bin .shr (T 37) (.const (.int .u64 (1)))),so 39 (.ci .i64 (T 38)),sm 12 39])
 (.seq (.reg [sm 40 4,sm 41 0,sm 42 12,so 43 (.iaddr (some 2) (T 41) (T 42)),so 44 (.load (some 2) (T 43)),sm 45 0,sm 46 1,so 47 (.iaddr (some 2) (T 45) (T 46)),so 48 (.load (some 2) (T 47)),so 49 (.callv true (T 40) [(T 44),(T 48)]),so 50 (.bin .lss (T 49) (C 0))])
 (.cond (T 50)
 (.reg [sm 51 12,so 52 (.bin .add (T 51) (C 1)),sm 10 52])
 (.reg [sm 53 12,sm 11 53]))))))))
 (.seq (.seq (.reg [sm 54 1,sm 13 54])
 (.block 2
 (.loop
 (.seq (.seq (.reg [sm 55 13,sm 56 10,so 57 (.bin .sub (T 56) (C 1)),so 58 (.bin .lss (T 55) (T 57))])
 (.cond (T 58)
 .skip
 (.exit 2)))
 (.seq (.block 3
 (.reg [sm 61 0,sm 62 13,sm 63 0,sm 64 13,so 65 (.bin .add (T 64) (C 1)),sm 66 0,sm 67 13,so 68 (.bin .add (T 67) (C 1)),so 69 (.iaddr (some 2) (T 66) (T 68)),so 70 (.load (some 2) (T 69)),sm 71 0,sm 72 13,so 73 (.iaddr (some 2) (T 71) (T 72)),so 74 (.load (some 2) (T 73)),so 75 (.iaddr (some 2) (T 61) (T 62)),sn (.store (some 2) (T 75) (T 70)),so 76 (.iaddr (some 2) (T 63) (T 65)),sn (.store (some 2) (T 76) (T 74))]))
 (.reg [sm 59 13,so 60 (.bin .add (T 59) (C 1)),sm 13 60]))))))
 .ret))))
 .skip))
 (.seq (.seq (.reg [sm 77 3,sm 78 2,so 79 (.bin .sub (T 77) (T 78)),so 80 (.bin .eql (T 79) (C 1))])
 (.cond (T 80)
 (.seq (.reg [sm 81 1,sm 14 81])
 (.seq (.reg [sm 82 2,sm 15 82])
 (.seq (.block 4
 (.loop
 (.seq (.seq (.reg [sm 83 14,sm 84 15,so 85 (.bin .lss (T 83) (T 84))])
 (.cond (T 85)
 .skip
 (.exit 4)))
 (.block 5
 (.seq (.reg [sm 86 14,sm 87 15,so 88 (.bin .add (T 86) (T 87)),so 89 (.ci .u64 (T 88)),so 90 (.bin .shr (T 89) (.const (.int .u64 (1)))),so 91 (.ci .i64 (T 90)),sm 16 91])
 (.seq (.reg [sm 92 4,sm 93 0,sm 94 2,so 95 (.iaddr (some 2) (T 93) (T 94)),so 96 (.load (some 2) (T 95)),sm 97 0,sm 98 16,so 99 (.iaddr (some 2) (T 97) (T 98)),so 100 (.load (some 2) (T 99)),so 101 (.callv true (T 92) [(T 96),(T 100)]),so 102 (.bin .lss (T 101) (C 0)),so 103 (.un .not (T 102))])
 (.cond (T 103)
 (.reg [sm 104 16,so 105 (.bin .add (T 104) (C 1)),sm 14 105])
 (.reg [sm 106 16,sm 15 106]))))))))
 (.seq (.seq (.reg [sm 107 2,sm 17 107])
 (.block 6
 (.loop
 (.seq (.seq (.reg [sm 108 17,sm 109 14,so 110 (.bin .gtr (T 108) (T 109))])
 (.cond (T 110)
 .skip
 (.exit 6)))
 (.seq (.block 7
 (.reg [sm 113 0,sm 114 17,sm 115 0,sm 116 17,so 117 (.bin .sub (T 116) (C 1)),sm 118 0,sm 119 17,so 120 (.bin .sub (T 119) (C 1)),so 121 (.iaddr (some 2) (T 118) (T 120)),so 122 (.load (some 2) (T 121)),sm 123 0,sm 124 17,so 125 (.iaddr (some 2) (T 123) (T 124)),so 126 (.load (some 2) (T 125)),so 127 (.iaddr (some 2) (T 113) (T 114)),sn (.store (some 2) (T 127) (T 122)),so 128 (.iaddr (some 2) (T 115) (T 117)),sn (.store (some 2) (T 128) (T 126))]))
 (.reg [sm 111 17,so 112 (.bin .sub (T 111) (C 1)),sm 17 112]))))))
 .ret))))
 .skip))
 (.seq (.reg [sm 129 1,sm 130 3,so 131 (.bin .add (T 129) (T 130)),so 132 (.ci .u64 (T 131)),so 133 (.bin .shr (T 132) (.const (.int .u64 (1)))),so 134 (.ci .i64 (T 133)),sm 18 134])
 (.seq (.reg [sm 135 18,sm 136 2,so 137 (.bin .add (T 135) (T 136)),sm 19 137])
 (.seq (.reg [so 20 (.mv (C 0)),so 21 (.mv (C 0))])
 (.seq (.seq (.reg [sm 138 2,sm 139 18,so 140 (.bin .gtr (T 138) (T 139))])
 (.cond (T 140)
 (.seq (.reg [sm 141 19,sm 142 3,so 143 (.bin .sub (T 141) (T 142)),sm 20 143])
 (.reg [sm 144 18,sm 21 144]))
 (.seq (.reg [sm 145 1,sm 20 145])
 (.reg [sm 146 2,sm 21 146]))))
 (.seq (.reg [sm 147 19,so 148 (.bin .sub (T 147) (C 1)),sm 22 148])
 (.seq (.block 8
 (.loop
 (.seq (.seq (.reg [sm 149 20,sm 150 21,so 151 (.bin .lss (T 149) (T 150))])
 (.cond (T 151)
 .skip
 (.exit 8)))
 (.block 9
 (.seq (.reg [sm 152 20,sm 153 21,so 154 (.bin .add (T 152) (T 153)),so 155 (.ci .u64 (T 154)),so 156 (.bin .shr (T 155) (.const (.int .u64 (1)))),so 157 (.ci .i64 (T 156)),sm 23 157])
 (.seq (.reg [sm 158 4,sm 159 0,sm 160 22,sm 161 23,so 162 (.bin .sub (T 160) (T 161)),so 163 (.iaddr (some 2) (T 159) (T 162)),so 164 (.load (some 2) (T 163)),sm 165 0,sm 166 23,so 167 (.iaddr (some 2) (T 165) (T 166)),so 168 (.load (some 2) (T 167)),so 169 (.callv true (T 158) [(T 164),(T 168)]),so 170 (.bin .lss (T 169) (C 0)),so 171 (.un .not (T 170))])
 (.cond (T 171)
 (.reg [sm 172 23,so 173 (.bin .add (T 172) (C 1)),sm 20 173])
 (.reg [sm 174 23,sm 21 174]))))))))
 (.seq (.reg [sm 175 19,sm 176 20,so 177 (.bin .sub (T 175) (T 176)),sm 24 177])
 (.seq (.seq (.reg [sm 178 20,sm 179 2,so 180 (.bin .lss (T 178) (T 179)),sm 181 180,sg 182 (.mv (T 2)) 181 true,sg 183 (.mv (T 24)) 181 true,sg 184 (.bin .lss (T 182) (T 183)) 181 true,so 185 (.pick (T 181) (T 184) (.const (.bool false)))])
 (.cond (T 185)
 (.reg [sm 186 0,sm 187 20,sm 188 2,sm 189 24,sm 190 4,so 191 (.call true Zb1 [(T 186),(T 187),(T 188),(T 189),(T 190)])])
 .skip))
 (.seq (.seq (.reg [sm 192 1,sm 193 20,so 194 (.bin .lss (T 192) (T 193)),sm 195 194,sg 196 (.mv (T 20)) 195 true,sg 197 (.mv (T 18)) 195 true,sg 198 (.bin .lss (T 196) (T 197)) 195 true,so 199 (.pick (T 195) (T 198) (.const (.bool false)))])
 (.cond (T 199)
 (.reg [sm 200 0,sm 201 1,sm 202 20,sm 203 18,sm 204 4,so 205 (.call true Zar [(T 200),(T 201),(T 202),(T 203),(T 204)])])
 .skip))
 (.seq (.reg [sm 206 18,sm 207 24,so 208 (.bin .lss (T 206) (T 207)),sm 209 208,sg 210 (.mv (T 24)) 209 true,sg 211 (.mv (T 3)) 209 true,sg 212 (.bin .lss (T 210) (T 211)) 209 true,so 213 (.pick (T 209) (T 212) (.const (.bool false)))])
 (.cond (T 213)
 (.reg [sm 214 0,sm 215 18,sm 216 24,sm 217 3,sm 218 4,so 219 (.call true Zar [(T 214),(T 215),(T 216),(T 217),(T 218)])])
 .skip)))))))))))))
theorem Za8:Zaj Tryz.prog 220 (Tryz.f161.body.getD .skip)=ZaH:=by kernel_rfl
theorem Za9:Zaf Tryz.prog Tryz.f161=some []:=by kernel_rfl
def Zkg:SCode :=
 (.seq (.reg [so 2 (.mv (.const (.bool false)))])
 (.seq (.reg [sm 3 0,sm 4 0,so 5 (.bin .neq (T 3) (T 4)),sm 2 5])
 .ret))
theorem Zpy:Zaj Tryz.prog 6 (Tryz.f162.body.getD .skip)=Zkg:=by kernel_rfl
theorem Zpz:Zaf Tryz.prog Tryz.f162=some [.tmp 2]:=by kernel_rfl
def Zb4:SCode :=
 (.seq (.reg [sm 12 2,sm 13 1,so 14 (.bin .sub (T 12) (T 13)),sm 10 14])
 (.seq (.reg [sm 15 3,sm 16 2,so 17 (.bin .sub (T 15) (T 16)),sm 11 17])
 (.seq (.block 0
 (.loop
 (.seq (.seq (.reg [sm 18 10,sm 19 11,so 20 (.bin .neq (T 18) (T 19))])
 (.cond (T 20)
 .skip
 (.exit 0)))
 (.block 1
 (.seq (.reg [sm 21 10,sm 22 11,so 23 (.bin .gtr (T 21) (T 22))])
 (.cond (T 23)
 (.seq (.reg [sm 24 0,sm 25 2,sm 26 10,so 27 (.bin .sub (T 25) (T 26)),sm 28 2,sm 29 11,sm 30 4,so 31 (.call true ZaF [(T 24),(T 27),(T 28),(T 29),(T 30)])])
 (.reg [sm 32 10,sm 33 11,so 34 (.bin .sub (T 32) (T 33)),sm 10 34]))
 (.seq (.reg [sm 35 0,sm 36 2,sm 37 10,so 38 (.bin .sub (T 36) (T 37)),sm 39 2,sm 40 11,so 41 (.bin .add (T 39) (T 40)),sm 42 10,so 43 (.bin .sub (T 41) (T 42)),sm 44 10,sm 45 4,so 46 (.call true ZaF [(T 35),(T 38),(T 43),(T 44),(T 45)])])
 (.reg [sm 47 11,sm 48 10,so 49 (.bin .sub (T 47) (T 48)),sm 11 49]))))))))
 (.reg [sm 50 0,sm 51 2,sm 52 10,so 53 (.bin .sub (T 51) (T 52)),sm 54 2,sm 55 10,sm 56 4,so 57 (.call true ZaF [(T 50),(T 53),(T 54),(T 55),(T 56)])]))))
theorem Zeh:Zaj Tryz.prog 58 (Tryz.f163.body.getD .skip)=Zb4:=by kernel_rfl
theorem Zei:Zaf Tryz.prog Tryz.f163=some []:=by kernel_rfl
def ZbL:SCode :=
 (.seq (.reg [so 10 (.mv (C 0))])
 (.block 0
 (.loop
 (.seq (.seq (.reg [sm 11 10,sm 12 3,so 13 (.bin .lss (T 11) (T 12))])
 (.cond (T 13)
 .skip
 (.exit 0)))
 (.seq (.block 1
 (.reg [sm 16 0,sm 17 1,sm 18 10,so 19 (.bin .add (T 17) (T 18)),sm 20 0,sm 21 2,sm 22 10,so 23 (.bin .add (T 21) (T 22)),sm 24 0,sm 25 2,sm 26 10,so 27 (.bin .add (T 25) (T 26)),so 28 (.iaddr (some 2) (T 24) (T 27)),so 29 (.load (some 2) (T 28)),sm 30 0,sm 31 1,sm 32 10,so 33 (.bin .add (T 31) (T 32)),so 34 (.iaddr (some 2) (T 30) (T 33)),so 35 (.load (some 2) (T 34)),so 36 (.iaddr (some 2) (T 16) (T 19)),sn (.store (some 2) (T 36) (T 29)),so 37 (.iaddr (some 2) (T 20) (T 23)),sn (.store (some 2) (T 37) (T 35))]))
 (.reg [sm 14 10,so 15 (.bin .add (T 14) (C 1)),sm 10 15]))))))
theorem Zdu:Zaj Tryz.prog 38 (Tryz.f164.body.getD .skip)=ZbL:=by kernel_rfl
theorem Zdv:Zaf Tryz.prog Tryz.f164=some []:=by kernel_rfl
def Zd9:SCode :=
 (.seq (.reg [so 4 (.mv (.const (.bool false)))])
 (.seq (.seq (.reg [so 13 (.call true Zfa []),so 14 (.un .not (T 13))])
 (.cond (T 14)
 (.seq (.reg [so 4 (.mv (.const (.bool false)))])
 .ret)
 .skip))
 (.seq (.seq (.reg [sm 15 0,so 16 (.len false (T 15)),so 17 (.bin .gtr (T 16) (C 10))])
 (.cond (T 17)
 (.seq (.reg [so 4 (.mv (.const (.bool true)))])
 .ret)
 .skip))
 (.seq (.reg [so 5 (.mv (.const (.slice none 0 0)))])
 (.seq (.reg [so 6 (.mv (.const (.slice none 0 0)))])
 (.seq (.reg [so 7 (.mv (C 0))])
 (.seq (.seq (.reg [so 8 (.mv (C 0))])
 (.block 0
 (.loop
 (.seq (.seq (.reg [sm 18 8,sm 19 0,so 20 (.len false (T 19)),so 21 (.bin .lss (T 18) (T 20))])
 (.cond (T 21)
 .skip
 (.exit 0)))
 (.seq (.block 1
 (.seq (.seq (.reg [sm 24 0,sm 25 8,so 26 (.iaddr (some 3) (T 24) (T 25)),so 27 (.faddr 2 (T 26)),so 28 (.load none (T 27)),so 29 (.len false (T 28)),sm 30 7,so 31 (.bin .sub (C 3000) (T 30)),so 32 (.bin .gtr (T 29) (T 31))])
 (.cond (T 32)
 (.seq (.reg [so 4 (.mv (.const (.bool true)))])
 .ret)
 .skip))
 (.seq (.reg [sm 33 7,sm 34 0,sm 35 8,so 36 (.iaddr (some 3) (T 34) (T 35)),so 37 (.faddr 2 (T 36)),so 38 (.load none (T 37)),so 39 (.len false (T 38)),so 40 (.bin .add (T 33) (T 39)),sm 7 40])
 (.seq (.reg [sm 42 0,sm 43 8,so 44 (.iaddr (some 3) (T 42) (T 43)),so 45 (.load (some 3) (T 44)),sm 46 1,so 47 (.bin .and (T 46) (C 3)),sm 48 8,so 49 (.bin .add (T 47) (T 48)),so 50 (.bin .rem (T 49) (C 3)),so 51 (.call true ZfR [(T 45),(T 50)]),sm 41 51,so 52 (.ext (T 41) 0),so 53 (.ext (T 41) 1),sm 9 52,sm 10 53])
 (.seq (.seq (.reg [sm 54 10,so 55 (.bin .neq (T 54) (C 0))])
 (.cond (T 55)
 (.exit 1)
 .skip))
 (.seq (.reg [sm 56 5,sm 57 9,so 58 (.app none 1 (T 56) (T 57)),sm 5 58])
 (.reg [sm 59 6,sm 60 0,sm 61 8,so 62 (.iaddr (some 3) (T 60) (T 61)),so 63 (.load (some 3) (T 62)),so 64 (.bslice (some 3) [(T 63)]),so 65 (.app (some 3) 48 (T 59) (T 64)),sm 6 65])))))))
 (.reg [sm 22 8,so 23 (.bin .add (T 22) (C 1)),sm 8 23]))))))
 (.seq (.reg [sm 67 5,sm 68 7,so 69 (.call true ZdP [(T 67),(T 68)]),sm 66 69,so 70 (.ext (T 66) 0),so 71 (.ext (T 66) 1),so 12 (.alloc [(.string ⟨#[]⟩),(.int .i64 (0)),(.int .i64 (0))]),sm 11 70,sn (.store (some 3) (T 12) (T 71))])
 (.seq (.seq (.reg [sm 72 6,so 73 (.len false (T 72)),so 74 (.bin .eql (T 73) (C 0))])
 (.cond (T 74)
 (.seq (.reg [sm 75 11,so 76 (.len false (T 75)),so 77 (.bin .eql (T 76) (C 0)),sm 78 77,sg 79 (.load (some 3) (T 12)) 78 true,sg 80 (.build [(.string ⟨#[]⟩),(.int .i64 (0)),(.int .i64 (0))] [(2,1,(C 2))]) 78 true,sg 81 (.aeq false (.agg #[(.string ⟨#[]⟩),(.int .i64 (0)),(.int .i64 (0))]) (T 79) (T 80)) 78 true,so 82 (.pick (T 78) (T 81) (.const (.bool false))),sm 4 82])
 .ret)
 .skip))
 (.seq (.reg [so 83 (.load (some 3) (T 12)),so 84 (.build [(.string ⟨#[]⟩),(.int .i64 (0)),(.int .i64 (0))] []),so 85 (.aeq false (.agg #[(.string ⟨#[]⟩),(.int .i64 (0)),(.int .i64 (0))]) (T 83) (T 84)),sm 86 85,sg 87 (.mv (T 11)) 86 true,sg 88 (.mv (T 6)) 86 true,sg 89 (.call true ZfQ [(T 87),(T 88)]) 86 true,so 90 (.pick (T 86) (T 89) (.const (.bool false))),sm 4 90])
 .ret))))))))))
theorem Zh8:Zaj Tryz.prog 91 (Tryz.f6.body.getD .skip)=Zd9:=by kernel_rfl
theorem Zh9:Zaf Tryz.prog Tryz.f6=some [.tmp 4]:=by kernel_rfl
def Zf7:SCode :=
 (.seq (.reg [so 4 (.mv (.const (.bool false)))])
 (.seq (.seq (.reg [sm 6 0,so 7 (.len false (T 6)),sm 8 1,so 9 (.len false (T 8)),so 10 (.bin .neq (T 7) (T 9))])
 (.cond (T 10)
 (.seq (.reg [so 4 (.mv (.const (.bool false)))])
 .ret)
 .skip))
 (.seq (.seq (.reg [so 5 (.mv (C 0))])
 (.block 0
 (.loop
 (.seq (.seq (.reg [sm 11 5,sm 12 0,so 13 (.len false (T 12)),so 14 (.bin .lss (T 11) (T 13))])
 (.cond (T 14)
 .skip
 (.exit 0)))
 (.seq (.block 1
 (.seq (.reg [sm 17 0,sm 18 5,so 19 (.iaddr (some 3) (T 17) (T 18)),so 20 (.faddr 0 (T 19)),so 21 (.load none (T 20)),sm 22 1,sm 23 5,so 24 (.iaddr (some 3) (T 22) (T 23)),so 25 (.faddr 0 (T 24)),so 26 (.load none (T 25)),so 27 (.bin .neq (T 21) (T 26)),sm 28 27,sg 29 (.mv (T 0)) 28 false,sg 30 (.mv (T 5)) 28 false,sg 31 (.iaddr (some 3) (T 29) (T 30)) 28 false,sg 32 (.faddr 1 (T 31)) 28 false,sg 33 (.load none (T 32)) 28 false,sg 34 (.mv (T 1)) 28 false,sg 35 (.mv (T 5)) 28 false,sg 36 (.iaddr (some 3) (T 34) (T 35)) 28 false,sg 37 (.faddr 1 (T 36)) 28 false,sg 38 (.load none (T 37)) 28 false,sg 39 (.bin .neq (T 33) (T 38)) 28 false,so 40 (.pick (T 28) (.const (.bool true)) (T 39)),sm 41 40,sg 42 (.mv (T 0)) 41 false,sg 43 (.mv (T 5)) 41 false,sg 44 (.iaddr (some 3) (T 42) (T 43)) 41 false,sg 45 (.faddr 2 (T 44)) 41 false,sg 46 (.load none (T 45)) 41 false,sg 47 (.b2s (T 46)) 41 false,sg 48 (.mv (T 1)) 41 false,sg 49 (.mv (T 5)) 41 false,sg 50 (.iaddr (some 3) (T 48) (T 49)) 41 false,sg 51 (.faddr 2 (T 50)) 41 false,sg 52 (.load none (T 51)) 41 false,sg 53 (.b2s (T 52)) 41 false,sg 54 (.bin .neq (T 47) (T 53)) 41 false,so 55 (.pick (T 41) (.const (.bool true)) (T 54))])
 (.cond (T 55)
 (.seq (.reg [so 4 (.mv (.const (.bool false)))])
 .ret)
 .skip)))
 (.reg [sm 15 5,so 16 (.bin .add (T 15) (C 1)),sm 5 16]))))))
 (.seq (.reg [so 4 (.mv (.const (.bool true)))])
 .ret))))
theorem ZkI:Zaj Tryz.prog 56 (Tryz.f18.body.getD .skip)=Zf7:=by kernel_rfl
theorem ZkJ:Zaf Tryz.prog Tryz.f18=some [.tmp 4]:=by kernel_rfl
end Go.Proofs.YtbcncdpaigljeaaGreatDoor.Aw
namespace Go.Proofs.YtbcncdpaigljeaaGreatDoor.Aw
open Go
set_option linter.unusedSimpArgs false
set_option linter.unusedVariables false
theorem Zz7 (b:List UInt8) (k:Nat) (h:k<b.length):b.take (k+1)=b.take k++[b.getD k 0]:=by
 rw [List.take_succ_eq_append_getElem h];simp [List.getD,List.getElem?_eq_getElem h]
theorem k0:AV.sc (.int .u32 0)=w32 0:=rfl
theorem k1:AV.sc (.int .u32 1)=w32 1:=rfl
theorem kP:AV.sc (.int .u32 3988292384)=w32 3988292384:=rfl
theorem ZIA {c:UInt32}:ZjP .shr (w32 c) (.sc (.int .u64 1))=(True,w32 (UInt32.ofNat (c.toNat / 2))):=Zz2 (k:=.u64) (n:=1)
def Zut (c:UInt32):UInt32:=if c&&&1=0 then UInt32.ofNat (c.toNat / 2) else UInt32.ofNat (c.toNat / 2) ^^^ 3988292384
def Zuu (x:UInt32):Nat→UInt32
 | 0=>x
 | k+1=>Zut (Zuu x k)
def Zz8 (c:UInt32) (b:UInt8):UInt32:=Zuu (c ^^^ UInt32.ofNat b.toNat) 8
def ZEr (c:UInt32) (l:List UInt8):UInt32:=l.foldl Zz8 c
theorem Zz9 (c:UInt32) (l:List UInt8) (b:UInt8):ZEr c (l++[b])=Zz8 (ZEr c l) b:=by simp [ZEr]
def ZkK (s:UInt32) (l:List UInt8):UInt32:= ~~~(ZEr (~~~s) l)
set_option maxRecDepth 100000 in
theorem ZnD [Tabs Tryz.prog] (s:UInt32) (nl:Bool) (l:List UInt8) (hl:l.length≤1000000):Con Tryz.prog Ziq [w32 s,.sl nl none (l.map u8)] (w32 (ZkK s l)):=by
 refine Con.of' mix Tryz.func113 rfl Tryz.ntmps113 Znl Znm (by simp) (by simp only [AV.free.freeL,Zq0,AV.free,Zak,Bool.and_self]) rfl ?_
 unfold Ziu
 repeat (first | refine zS ?_ | exact zT)
 refine SWp.loop (α:=Nat) (fun k=>mk 35 0 [(5,w32 (ZEr (~~~s) (l.take k))),(11,.sl nl none (l.map u8)),(12,int l.length),(13,int k)] [])
  (fun k=>k≤l.length) (fun k=>l.length-k) 0 (Nat.zero_le _) (Zau rfl ?_ ?_ ?_) ?_
 ·exact Nat.le_refl _
 ·(first | exact yT | refine yS ?_)
  rfl
 ·(first | exact yT | refine yS ?_)
 rintro k hk -
 repeat (first | refine zS ?_ | exact zT)
 refine SWp.cond rfl (fun h=>?_) (fun h=>?_)
 ·simp only [decide_eq_true_eq] at h
  have hk':k<l.length:=by omega
  have hs:ZEr (~~~s) (l.take (k+1))=Zuu (ZEr (~~~s) (l.take k) ^^^ UInt32.ofNat (l.getD k 0).toNat) 8:=by rw [Zz7 l k hk',Zz9];rfl
  obtain ⟨c,hc⟩:∃ c,c=ZEr (~~~s) (l.take k) ^^^ UInt32.ofNat (l.getD k 0).toNat:=⟨_,rfl⟩
  rw [←hc] at hs
  repeat (first | refine zR hc.symm ?_ | exact zU hc.symm)
  refine SWp.loop (α:=Nat) (fun j=>mk 35 0 [(5,w32 (Zuu c j)),(11,.sl nl none (l.map u8)),(12,int l.length),(13,int k),(21,int j)] [])
   (fun j=>j≤8) (fun j=>8-j) 0 (Nat.zero_le _) (Zau rfl ?_ ?_ ?_) ?_
  ·exact Nat.le_refl _
  iterate 2 (case _=>(first | exact yU (ja3 @Zuu.eq_1 @Zuu.eq_2 hc.symm) | refine yR (ja3 @Zuu.eq_1 @Zuu.eq_2 hc.symm) ?_))
  rintro j hj -
  repeat (first | refine zS ?_ | exact zT)
  refine SWp.cond rfl (fun h=>?_) (fun h=>?_)
  ·simp only [decide_eq_true_eq] at h
   by_cases c0:Zuu c j&&&1=0
   ·have d0:=decide_eq_true c0
    have he:Zuu c (j+1)=UInt32.ofNat ((Zuu c j).toNat / 2):=by simp only [Zuu,Zut];rw [if_pos c0]
    repeat (first | refine zR (ja5 @d0 @k0 @k1 @kP @ZIA) ?_ | exact zU (ja5 @d0 @k0 @k1 @kP @ZIA))
    refine At.of (j+1) (by omega) (by omega) rfl rfl (Nat.le_refl _) ?_ ?_
    iterate 2 (case _=>(first | exact yU @he | refine yR @he ?_))
   ·have d0:=decide_eq_false c0
    have he:Zuu c (j+1)=UInt32.ofNat ((Zuu c j).toNat / 2) ^^^ 3988292384:=by simp only [Zuu,Zut];rw [if_neg c0]
    repeat (first | refine zR (ja5 @d0 @k0 @k1 @kP @ZIA) ?_ | exact zU (ja5 @d0 @k0 @k1 @kP @ZIA))
    refine At.of (j+1) (by omega) (by omega) rfl rfl (Nat.le_refl _) ?_ ?_
    iterate 2 (case _=>(first | exact yU @he | refine yR @he ?_))
  ·simp only [decide_eq_false_iff_not] at h
   obtain rfl:j=8:=by omega
   repeat (first | refine zS ?_ | exact zT)
   refine At.of (k+1) (by omega) (by omega) rfl rfl (Nat.le_refl _) ?_ ?_
   iterate 2 (case _=>(first | exact yU @hs | refine yR @hs ?_))
 ·simp only [decide_eq_false_iff_not] at h
  obtain rfl:k=l.length:=by omega
  repeat (first | refine zR (ja2 @List.take_length.{0} @ZkK.eq_1) ?_ | exact zU (ja2 @List.take_length.{0} @ZkK.eq_1))
theorem ZsA [Tabs Tryz.prog] (nl:Bool) (l:List UInt8) (hl:l.length≤1000000):Con Tryz.prog ZmZ [.sl nl none (l.map u8)] (w32 (ZkK 0 l)):=by
 refine Con.of' mix Tryz.func69 rfl Tryz.ntmps69 Zsm Zsn (by simp) (by simp only [AV.free.freeL,AV.free,Zak,Bool.and_self]) rfl ?_
 unfold Zm1
 repeat (first | refine zR @k0 ?_ | exact zU @k0)
 refine Zay _ (.inl ⟨by simp only [AV.free.freeL,Zq0,AV.free,Zak,Bool.and_self],ZnD 0 nl l hl⟩) ?_
 repeat (first | refine zS ?_ | exact zT)
theorem ZpA (l:List UInt8) (c:UInt8) (n:Nat) (hn:n<l.length) (hc:l.getD n 0=c) (h:∀ k,k<n→l.getD k 0≠c):Lib.indexByte l c=n:=by
 induction l generalizing n with
 | nil=>simp at hn
 | cons b l ih =>
  cases n with
  | zero=>simp only [List.getD_cons_zero] at hc;simp [Lib.indexByte,hc]
  | succ n =>
   have h0:=h 0 (by omega)
   simp only [List.getD_cons_zero] at h0
   have hr:=ih n (by simpa using hn) (by simpa using hc) fun k hk=>by simpa using h (k+1) (by omega)
   have:((n:Int)==-1)=false:=by simp
   simp [Lib.indexByte,h0,hr,this]
theorem ZAa (b:List UInt8) (k:Nat) (h:k<b.length):b.take (k+1)=b.take k++[b.getD k 0]:=by
 rw [List.take_succ_eq_append_getElem h];simp [List.getD,List.getElem?_eq_getElem h]
theorem Zf8 {x:Int} (h1:0≤x) (h2:x<18446744073709551616):IntKind.u64.wrap x=x:=by
 simp only [IntKind.wrap,IntKind.bits,IntKind.signed]
 simp
 omega
def leB (n:Nat) (size:Nat):List UInt8:=(List.range size).map fun i=>UInt8.ofNat (n / 2^(8*i))
def leK (n size k:Nat):List AV:=(List.range size).map fun i=>.sc (.int .u8 (if i<k then ((n / 2^(8*i) % 256:Nat):Int) else 0))
theorem Zmv {n size k:Nat}:(leK n size k).length=size:=by simp [leK]
theorem ZDp (n size:Nat):(List.replicate size [AV.sc (.int .u8 0)]).flatten=leK n size 0:=by
 apply List.ext_getElem
 ·simp [leK]
 ·intro i h1 h2
  simp [leK]
theorem ZFP (n size k:Nat) (h:k<size):(leK n size k).take k++(.sc (.int .u8 ((n / 2^(8*k) % 256:Nat):Int))::(leK n size k).drop (k+1))=leK n size (k+1):=by
 apply List.ext_getElem
 ·simp [leK];omega
 ·intro i h1 h2
  have hi:i<size:=by simpa [leK] using h2
  have e:((leK n size k).take k).length=k:=by simp [leK];omega
  rw [List.getElem_append]
  split
  ·rename_i hlt
   rw [e] at hlt
   simp [leK,hlt,show i<k+1 by omega]
  ·rename_i hge
   rw [e] at hge
   rw [List.getElem_cons]
   split
   ·rename_i h0
    rw [e] at h0
    obtain rfl:i=k:=by omega
    simp [leK]
   ·rename_i h0
    rw [e] at h0
    have h1:¬ i<k:=by omega
    have h2:¬ i<k+1:=by omega
    have h3:¬ (k+1+(i-k-1)<k):=by omega
    simp only [List.getElem_drop,e]
    simp [leK,h2,h3]
theorem Zvy (n size:Nat):leK n size size=(leB n size).map u8:=by
 simp only [leK,leB,List.map_map]
 apply List.map_congr_left
 intro i hi
 rw [List.mem_range] at hi
 simp only [Function.comp,u8,if_pos hi,UInt8.toNat_ofNat']
def leR (n:Nat) (size:Int):AV:=if size<1∨8<size then .sc (.slice none 0 0) else .sl false none ((leB n size.toNat).map u8)
theorem Zia {n m:Nat}:((no_index (@OfNat.ofNat Int m instOfNat))*(n:Int)).toNat=(@OfNat.ofNat Nat m (instOfNatNat m))*n:=rfl
theorem Zuv {n:Nat}:IntKind.u8.wrap (n:Int)=((n % 256:Nat):Int):=by rw [ZzC];rfl
set_option maxRecDepth 100000 in
theorem Zmw [Tabs Tryz.prog] (n:Nat) (hn:n<18446744073709551616) (size:Int) (h1:-9223372036854775808≤size) (h2:size≤9223372036854775807):Con Tryz.prog Zjv [.sc (.int .u64 n),int size] (leR n size):=by
 refine Con.of' mix Tryz.func68 rfl Tryz.ntmps68 ZxY ZxZ (by simp) (by simp [AV.free,AV.free.freeL,int]) (by unfold leR;split <;> simp [AV.free,Zak]) ?_
 unfold Zqb
 by_cases c1:size<1
 ·have d1:decide (size<1)=true:=decide_eq_true c1
  have hu:leR n size = .sc (.slice none 0 0):=if_pos (.inl c1)
  repeat (first | refine zR (ja2 @d1 @hu) ?_ | exact zU (ja2 @d1 @hu))
 ·have d1:decide (size<1)=false:=decide_eq_false c1
  by_cases c2:8<size
  ·have d2:decide (8<size)=true:=decide_eq_true c2
   have hu:leR n size = .sc (.slice none 0 0):=if_pos (.inr c2)
   repeat (first | refine zR (ja3 @d1 @d2 @hu) ?_ | exact zU (ja3 @d1 @d2 @hu))
  ·have d2:decide (8<size)=false:=decide_eq_false c2
   have hu:leR n size = .sl false none ((leB n size.toNat).map u8):=if_neg (by omega)
   obtain ⟨m,rfl⟩:∃ m:Nat,size=m:=⟨size.toNat,by omega⟩
   repeat (first | refine wA ?_ | refine wB ?_ | refine wC rfl ?_ | refine wD rfl ?_ | refine wE ?_ | refine wF (by omega) ?_ | ((first | refine wG ?_ | refine wH ?_ | refine wI ?_ | refine wJ ?_ | refine wK ?_ | refine wL ?_);simp (disch:=omega) only [wP,wZ,so,sm,sg,sn,undef,seval,if_pos,if_neg,ZaZ,frz,AV.flat,↓reduceIte,ne_eq,reduceCtorEq,ByteArray.size,d1,d2,ZDp n]))
   refine SWp.loop (α:=Nat) (fun k=>mk 29 1 [(0,.sc (.int .u64 n)),(5,.own 14 0 none 0 m),(15,int m),(16,int k)] [(14,0,.row false (leK n m k))])
    (fun k=>k≤m) (fun k=>m-k) 0 (Nat.zero_le _) (Zau rfl ?_ ?_ ?_) ?_
   ·exact Nat.le_refl _
   iterate 2 (case _=>(first | exact yT | refine yS ?_))
   ·rintro k hk -
    refine SWp.seq (SWp.reg ?_)
    (first | exact yT | refine yS ?_)
    refine SWp.seq (SWp.cond rfl (fun h=>?_) (fun h=>?_))
    ·simp only [decide_eq_true_eq] at h
     have hk':k<m:=by omega
     repeat (first | refine wA ?_ | refine wB ?_ | refine wC rfl ?_ | refine wD rfl ?_ | refine wE ?_ | refine wF (by omega) ?_ | ((first | refine wG ?_ | refine wH ?_ | refine wI ?_ | refine wJ ?_ | refine wK ?_ | refine wL ?_);simp (disch:=omega) only [wP,wZ,so,sm,sg,sn,undef,seval,if_pos,if_neg,ZaZ,frz,AV.flat,↓reduceIte,ne_eq,reduceCtorEq,ByteArray.size,Zmv,Zia,Zuv,ZFP n m k hk']))
     refine At.of (k+1) (by omega) (by omega) rfl rfl (Nat.le_refl _) ?_ ?_
     iterate 2 (case _=>(first | exact yT | refine yS ?_))
    ·simp only [decide_eq_false_iff_not] at h
     obtain rfl:k=m:=by omega
     have hlb:(leB n k).length=k:=by simp [leB]
     repeat (first | refine zR (ja5 @hu @Zvy @Zmv @hlb @List.take_of_length_le.{0}) ?_ | exact zU (ja5 @hu @Zvy @Zmv @hlb @List.take_of_length_le.{0}))
def stB (len:Nat) (at_ size:Int):Bool:=decide (1≤size∧size≤8∧0≤at_∧at_≤len-size)
set_option maxRecDepth 100000 in
theorem ZpB [Tabs Tryz.prog] (nl:Bool) (b:List UInt8) (hb:b.length≤1000000) (at_ size:Int):Con Tryz.prog Zka [.sl nl none (b.map u8),int at_,int size] (boo (stB b.length at_ size)):=by
 refine Con.of' mix Tryz.func143 rfl Tryz.ntmps143 Zpq Zpr (by simp) (by simp only [AV.free,AV.free.freeL,Zak,int,Bool.and_self]) rfl ?_
 unfold Zkc
 by_cases c1:size<1
 ·have d1:=decide_eq_true c1
  have hu:stB b.length at_ size=false:=decide_eq_false (by omega)
  repeat (first | refine zR (ja2 @d1 @hu) ?_ | exact zU (ja2 @d1 @hu))
 ·have d1:=decide_eq_false c1
  by_cases c2:8<size
  ·have d2:=decide_eq_true c2
   have hu:stB b.length at_ size=false:=decide_eq_false (by omega)
   repeat (first | refine zR (ja3 @d1 @d2 @hu) ?_ | exact zU (ja3 @d1 @d2 @hu))
  ·have d2:=decide_eq_false c2
   by_cases c3:at_<0
   ·have d3:=decide_eq_true c3
    have hu:stB b.length at_ size=false:=decide_eq_false (by omega)
    repeat (first | refine zR (ja4 @d1 @d2 @d3 @hu) ?_ | exact zU (ja4 @d1 @d2 @d3 @hu))
   ·have d3:=decide_eq_false c3
    have hu:stB b.length at_ size=decide (at_≤(b.length:Int)-size):=by
     unfold stB
     by_cases h:at_≤(b.length:Int)-size
     ·rw [decide_eq_true h];exact decide_eq_true (by omega)
     ·rw [decide_eq_false h];exact decide_eq_false (by omega)
    repeat (first | refine zR (ja4 @d1 @d2 @d3 @hu) ?_ | exact zU (ja4 @d1 @d2 @d3 @hu))
def beN (l:List UInt8):Nat:=l.foldl (fun n c=>n*256+c.toNat) 0
def leN (l:List UInt8):Nat:=beN l.reverse
theorem ZDq (l:List UInt8) (n:Nat):l.foldl (fun n c=>n*256+c.toNat) n=n*256^l.length+beN l:=by
 induction l generalizing n with
 | nil=>simp [beN]
 | cons c l ih =>
  simp only [beN,List.foldl_cons,List.length_cons]
  rw [ih,ih (0*256+c.toNat),Nat.pow_succ,Nat.add_mul]
  have:n*256*256^l.length=n*(256^l.length*256):=by rw [Nat.mul_assoc,Nat.mul_comm 256]
  rw [this,show 0*256+c.toNat=c.toNat by omega];omega
theorem Zvz (l:List UInt8) (c:UInt8):beN (c::l)=c.toNat*256^l.length+beN l:=by
 have:=ZDq l c.toNat
 simp only [beN,List.foldl_cons,Nat.zero_mul,Nat.zero_add]
 exact this
theorem ZDr (l:List UInt8) (c:UInt8):leN (l++[c])=leN l+c.toNat*256^l.length:=by
 unfold leN
 rw [List.reverse_append]
 simp only [List.reverse_cons,List.reverse_nil,List.nil_append,List.cons_append]
 rw [Zvz,List.length_reverse,Nat.add_comm]
theorem ZEs (l:List UInt8):beN l<256^l.length:=by
 induction l with
 | nil=>simp [beN]
 | cons c l ih =>
  rw [Zvz,List.length_cons,Nat.pow_succ]
  have:c.toNat<256:=c.toNat_lt
  have h:c.toNat*256^l.length≤255*256^l.length:=Nat.mul_le_mul_right _ (by omega)
  omega
theorem ZFQ (k:Nat) (h:k<8):256^k≤72057594037927936:=by
 have:256^k≤256^7:=Nat.pow_le_pow_right (by omega) (by omega)
 omega
def Zm8 (b:List UInt8) (at_ size:Int):AV:=if stB b.length at_ size=true then .tup [.sc (.int .u64 (leN ((b.drop at_.toNat).take size.toNat))),boo true] else .tup [.sc (.int .u64 0),boo false]
theorem ZDs (b:List UInt8) (a m k:Nat) (h:k<m) (h':a+m≤b.length):b.getD (a+k) 0=((b.drop a).take m).getD k 0:=by
 simp only [List.getD,List.getElem?_take,if_pos h,List.getElem?_drop]
set_option maxRecDepth 100000 in
theorem Zq5 [Tabs Tryz.prog] (nl:Bool) (b:List UInt8) (hb:b.length≤1000000) (at_ size:Int):Con Tryz.prog Zli [.sl nl none (b.map u8),int at_,int size] (Zm8 b at_ size):=by
 refine Con.of' mix Tryz.func115 rfl Tryz.ntmps115 Zq1 Zq2 (by simp) (by simp only [AV.free,AV.free.freeL,Zak,int,Bool.and_self]) (by unfold Zm8;split <;> rfl) ?_
 unfold Zlr
 repeat (first | refine zS ?_ | exact zT)
 refine Zay _ (.inl ⟨by simp only [AV.free,AV.free.freeL,Zak,Bool.and_self],ZpB nl b hb at_ size⟩) ?_
 cases hst:stB b.length at_ size with
 | false =>
  have hr:Zm8 b at_ size = .tup [.sc (.int .u64 0),boo false]:=by unfold Zm8;rw [hst];rfl
  repeat (first | refine zR @hr ?_ | exact zU @hr)
 | true =>
  have hst':=of_decide_eq_true hst
  obtain ⟨a,rfl⟩:∃ a:Nat,at_=a:=⟨at_.toNat,by omega⟩
  obtain ⟨m,rfl⟩:∃ m:Nat,size=m:=⟨size.toNat,by omega⟩
  obtain ⟨w,hw⟩:∃ w,w=(b.drop a).take m:=⟨_,rfl⟩
  have hwl:w.length=m:=by rw [hw];simp;omega
  have hr:Zm8 b a m = .tup [.sc (.int .u64 (leN w)),boo true]:=by unfold Zm8;rw [hst,hw];rfl
  repeat (first | refine zS ?_ | exact zT)
  refine SWp.loop (α:=Nat) (fun k=>mk 33 0 [(0,.sl nl none (b.map u8)),(1,int a),(8,.sc (.int .u64 (leN (w.take k)))),(15,int m),(16,int k)] [])
   (fun k=>k≤m) (fun k=>m-k) 0 (Nat.zero_le _) (Zau rfl ?_ ?_ ?_) ?_
  ·exact Nat.le_refl _
  ·(first | exact yT | refine yS ?_)
   rfl
  ·(first | exact yT | refine yS ?_)
  ·rintro k hk -
   repeat (first | refine zS ?_ | exact zT)
   refine SWp.cond rfl (fun h=>?_) (fun h=>?_)
   ·simp only [decide_eq_true_eq] at h
    have hkm:k<m:=by omega
    have hg:b.getD (a+k) 0=w.getD k 0:=by rw [hw];exact ZDs b a m k hkm (by omega)
    have hlt:leN (w.take k)<256^k:=by
     have:=ZEs (w.take k).reverse
     rwa [List.length_reverse,List.length_take,hwl,Nat.min_eq_left (by omega)] at this
    have hp:=ZFQ k (by omega)
    have hc:(w.getD k 0).toNat<256:=(w.getD k 0).toNat_lt
    have e256:2^(8*k)=256^k:=by rw [Nat.pow_mul]
    have hsh:(w.getD k 0).toNat*256^k<18446744073709551616:=by
     have:(w.getD k 0).toNat*256^k≤255*72057594037927936:=Nat.mul_le_mul (by omega) hp
     omega
    have hor:leN (w.take k)|||(w.getD k 0).toNat*256^k=leN (w.take (k+1)):=by
     rw [ZAa w k (by omega),ZDr,List.length_take,hwl,Nat.min_eq_left (by omega),Nat.or_comm,←e256,ZHs (by rw [e256];exact hlt),Nat.add_comm]
    have hlt':leN (w.take (k+1))<18446744073709551616:=by
     have:=ZEs (w.take (k+1)).reverse
     rw [List.length_reverse,List.length_take,hwl,Nat.min_eq_left (by omega),Nat.pow_succ] at this
     have:leN (w.take (k+1))<256^k*256:=this
     omega
    repeat (first | refine zR (ja5 @hg @Zf8 @Zia @e256 @hor) ?_ | exact zU (ja5 @hg @Zf8 @Zia @e256 @hor))
    refine At.of (k+1) (by omega) (by omega) rfl rfl (Nat.le_refl _) ?_ ?_
    iterate 2 (case _=>(first | exact yT | refine yS ?_))
   ·simp only [decide_eq_false_iff_not] at h
    obtain rfl:k=m:=by omega
    have hwt:w.take k=w:=List.take_of_length_le (by omega)
    repeat (first | refine zR (ja2 @hwt @hr) ?_ | exact zU (ja2 @hwt @hr))
end Go.Proofs.YtbcncdpaigljeaaGreatDoor.Aw
