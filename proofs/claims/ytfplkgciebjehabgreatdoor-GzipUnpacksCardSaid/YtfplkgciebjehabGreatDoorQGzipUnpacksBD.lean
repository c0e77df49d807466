/- Parts of the proof of GzipUnpacks. -/
import Derived.Test.YtfplkgciebjehabGreatDoorQGzipUnpacksBB
import Derived.Test.YtfplkgciebjehabGreatDoorProg
import Derived.Test.YtfplkgciebjehabGreatDoorQGzipUnpacksBC
namespace Go.Proofs.YtfplkgciebjehabGreatDoor.Aw
open Go
set_option linter.defProp false
set_option maxRecDepth 100000
set_option maxRecDepth 100000
set_option linter.unusedSimpArgs false
abbrev Znz:Nat:=118
abbrev Zpw:Nat:=141
abbrev Zlj:Nat:=142
abbrev ZdD:Nat:=42
abbrev Zj3:Nat:=139
abbrev ZcB:Nat:=138
abbrev Zhn:Nat:=105
abbrev ZgP:Nat:=101
abbrev Zi3:Nat:=137
abbrev ZcC:Nat:=6
abbrev Zd5:Nat:=34
abbrev ZgQ:Nat:=17
abbrev ZhR:Nat:=15
abbrev ZdE:Nat:=14
abbrev Zbg:Nat:=33
abbrev Zgg:Nat:=16
abbrev Zh6:Nat:=102
abbrev ZhF:Nat:=136
abbrev ZcI:Nat:=4
abbrev ZeS:Nat:=9
abbrev ZgR:Nat:=112
abbrev ZeT:Nat:=110
abbrev ZbD:Nat:=63
abbrev Zby:Nat:=111
abbrev ZdF:Nat:=65
abbrev Zfu:Nat:=22
abbrev ZcT:Nat:=98
abbrev ZcU:Nat:=53
abbrev Zbp:Nat:=54
abbrev Zfv:Nat:=96
abbrev Zer:Nat:=48
abbrev Zgh:Nat:=133
abbrev Zde:Nat:=134
abbrev ZcV:Nat:=99
abbrev Zd6:Nat:=8
abbrev ZeU:Nat:=26
abbrev Za4:Nat:=27
abbrev ZcW:Nat:=97
abbrev Zar:Nat:=49
abbrev Zbs:Nat:=25
abbrev ZbX:Nat:=52
abbrev Zcj:Nat:=51
abbrev Zah:Nat:=23
abbrev Zck:Nat:=24
abbrev Za0:Nat:=50
abbrev Zc1:Nat:=29
abbrev ZaC:Nat:=28
abbrev Zes:Nat:=32
abbrev Zdf:Nat:=12
abbrev Zcl:Nat:=11
abbrev ZcD:Nat:=66
abbrev Zdg:Nat:=64
abbrev Zjc:Nat:=30
abbrev ZdG:Nat:=10
abbrev Zmu:Nat:=58
abbrev Zb3:Nat:=61
abbrev ZbS:Nat:=106
abbrev Zb4:Nat:=59
abbrev Zcm:Nat:=109
abbrev Zbe:Nat:=31
abbrev Zb5:Nat:=107
abbrev ZdH:Nat:=62
abbrev ZaR:Nat:=104
abbrev Zb6:Nat:=108
abbrev Zbz:Nat:=60
abbrev Zjd:Nat:=56
abbrev Zh7:Nat:=124
abbrev Zfw:Nat:=130
abbrev ZhG:Nat:=19
abbrev ZbB:Nat:=89
abbrev ZhH:Nat:=13
abbrev Zdh:Nat:=86
abbrev ZhI:Nat:=21
abbrev Zdi:Nat:=87
abbrev ZaS:Nat:=43
abbrev Zei:Nat:=85
abbrev Zb7:Nat:=84
abbrev Zdb:Nat:=90
abbrev Zgi:Nat:=127
abbrev Zdj:Nat:=67
abbrev Zfx:Nat:=18
abbrev ZbJ:Nat:=68
abbrev ZgS:Nat:=69
abbrev ZgT:Nat:=113
abbrev ZhJ:Nat:=125
abbrev Zgj:Nat:=126
abbrev Za5:Nat:=7
abbrev ZgU:Nat:=95
abbrev Zfy:Nat:=132
abbrev ZeV:Nat:=45
abbrev ZbK:Nat:=20
abbrev Zcn:Nat:=129
abbrev Zc2:Nat:=128
abbrev ZcJ:Nat:=94
abbrev Zbt:Nat:=91
abbrev ZaO:Nat:=131
abbrev Zbh:Nat:=88
abbrev Zd7:Nat:=92
abbrev Zc3:Nat:=44
abbrev Zbu:Nat:=46
abbrev Zc4:Nat:=93
abbrev Zb8:Nat:=47
abbrev ZdI:Nat:=57
abbrev Zet:Nat:=75
abbrev Zeu:Nat:=103
abbrev Zfz:Nat:=117
abbrev ZaK:Nat:=76
abbrev ZfA:Nat:=55
abbrev ZdJ:Nat:=100
theorem mix:Tryz.prog.follows .mixedOrders=true:=by kernel_rfl
def ZeW:SCode :=
 (.seq (.reg [so 0 (.mv (.const (.bool false)))])
 (.seq (.reg [so 6 (.bsl none [(.const (.int .u8 (97)))]),so 7 (.strz (T 6)),so 8 (.build [(.string ⟨#[]⟩),(.int .i64 (0)),(.slice none 0 0)] [(0,1,(.const (.string ⟨#[110]⟩))),(1,1,(C 1)),(2,1,(T 7))]),so 9 (.call true Zjc [(T 8),(C 0)]),sm 5 9,so 10 (.ext (T 5) 0),so 11 (.ext (T 5) 1),sm 1 10,sm 2 11])
 (.seq (.reg [sm 13 1,so 14 (.call true ZdG [(T 13),(C 10)]),sm 12 14,so 15 (.ext (T 12) 0),so 16 (.ext (T 12) 1),so 4 (.alloc [(.string ⟨#[]⟩),(.int .i64 (0)),(.int .i64 (0))]),sm 3 15,sn (.store (some 3) (T 4) (T 16))])
 (.seq (.reg [sm 17 2,so 18 (.bin .eql (T 17) (C 0)),sm 19 18,sg 20 (.load (some 3) (T 4)) 19 true,sg 21 (.build [(.string ⟨#[]⟩),(.int .i64 (0)),(.int .i64 (0))] []) 19 true,sg 22 (.aeq false (.agg #[(.string ⟨#[]⟩),(.int .i64 (0)),(.int .i64 (0))]) (T 20) (T 21)) 19 true,so 23 (.pick (T 19) (T 22) (.const (.bool false))),sm 24 23,sg 25 (.mv (T 1)) 24 true,sg 26 (.len false (T 25)) 24 true,sg 27 (.bin .eql (T 26) (C 26)) 24 true,so 28 (.pick (T 24) (T 27) (.const (.bool false))),sm 29 28,sg 30 (.mv (T 1)) 29 true,sg 31 (.sl none (T 30) none (some (C 12))) 29 true,sg 32 (.b2s (T 31)) 29 true,sg 33 (.bin .eql (T 32) (.const (.string ⟨#[31,139,8,8,1,0,0,0,0,3,110,0]⟩))) 29 true,so 34 (.pick (T 29) (T 33) (.const (.bool false))),sm 35 34,sg 36 (.mv (T 3)) 35 true,sg 37 (.len false (T 36)) 35 true,sg 38 (.bin .eql (T 37) (C 1)) 35 true,so 39 (.pick (T 35) (T 38) (.const (.bool false))),sm 40 39,sg 41 (.mv (T 3)) 40 true,sg 42 (.iaddr (some 3) (T 41) (C 0)) 40 true,sg 43 (.faddr 0 (T 42)) 40 true,sg 44 (.load none (T 43)) 40 true,sg 45 (.bin .eql (T 44) (.const (.string ⟨#[110]⟩))) 40 true,so 46 (.pick (T 40) (T 45) (.const (.bool false))),sm 47 46,sg 48 (.mv (T 3)) 47 true,sg 49 (.iaddr (some 3) (T 48) (C 0)) 47 true,sg 50 (.faddr 2 (T 49)) 47 true,sg 51 (.load none (T 50)) 47 true,sg 52 (.b2s (T 51)) 47 true,sg 53 (.bin .eql (T 52) (.const (.string ⟨#[97]⟩))) 47 true,so 54 (.pick (T 47) (T 53) (.const (.bool false))),sm 0 54])
 .ret))))
theorem ZiG:Zam Tryz.prog 55 (Tryz.f9.body.getD .skip)=ZeW:=by kernel_rfl
theorem ZiH:Zaf Tryz.prog Tryz.f9=some [.tmp 0]:=by kernel_rfl
def Zmv:SCode :=
 (.seq (.reg [so 2 (.box (T 0)),so 4 (.mv (.const (.slice none 0 0))),so 5 (.mv (C 0))])
 (.seq (.seq (.reg [so 9 (.faddr 1 (T 2)),so 10 (.load none (T 9)),so 11 (.bin .lss (T 10) (C 0)),sm 12 11,sg 13 (.faddr 1 (T 2)) 12 false,sg 14 (.load none (T 13)) 12 false,sg 15 (.bin .gtr (T 14) (C 4294967295)) 12 false,so 16 (.pick (T 12) (.const (.bool true)) (T 15))])
 (.cond (T 16)
 (.seq (.reg [so 4 (.mv (.const (.slice none 0 0))),so 5 (.mv (C 1))])
 .ret)
 .skip))
 (.seq (.seq (.reg [so 17 (.faddr 0 (T 2)),so 18 (.load none (T 17)),so 19 (.len true (T 18)),so 20 (.bin .gtr (T 19) (C 200)),sm 21 20,sg 22 (.faddr 0 (T 2)) 21 false,sg 23 (.load none (T 22)) 21 false,sg 24 (.call true ZfA [(T 23),(.const (.int .u8 (0)))]) 21 false,sg 25 (.bin .geq (T 24) (C 0)) 21 false,so 26 (.pick (T 21) (.const (.bool true)) (T 25))])
 (.cond (T 26)
 (.seq (.reg [so 4 (.mv (.const (.slice none 0 0))),so 5 (.mv (C 10))])
 .ret)
 .skip))
 (.seq (.reg [so 28 (.faddr 2 (T 2)),so 29 (.load none (T 28)),sm 30 1,so 31 (.call true ZcC [(T 29),(T 30)]),sm 27 31,so 32 (.ext (T 27) 0),so 33 (.ext (T 27) 1),sm 6 32,sm 7 33])
 (.seq (.seq (.reg [sm 34 7,so 35 (.bin .neq (T 34) (C 0))])
 (.cond (T 35)
 (.seq (.reg [sm 36 7,so 4 (.mv (.const (.slice none 0 0))),sm 5 36])
 .ret)
 .skip))
 (.seq (.reg [so 37 (.faddr 2 (T 2)),so 38 (.load none (T 37)),so 39 (.call true Zjd [(T 38)]),so 8 (.alloc (List.replicate 8 (.int .u8 (0)))),sn (.store (some 8) (T 8) (T 39))])
 (.seq (.reg [so 40 (.load (some 3) (T 2)),so 41 (.call false Zmu [(T 40)]),sm 42 6,so 43 (.sla 8 none (T 8) none none),so 44 (.bslice none [(T 41),(T 42),(T 43)]),so 45 (.call true ZdI [(T 44)]),sm 4 45,so 5 (.mv (C 0))])
 .ret)))))))
theorem Zrh:Zam Tryz.prog 46 (Tryz.f30.body.getD .skip)=Zmv:=by kernel_rfl
theorem Zri:Zaf Tryz.prog Tryz.f30=some [.tmp 4,.tmp 5]:=by kernel_rfl
def Zmw:SCode :=
 (.seq (.reg [so 1 (.box (T 0)),so 2 (.mv (.const (.slice none 0 0)))])
 (.seq (.reg [so 3 (.mv (.const (.int .u8 (0))))])
 (.seq (.seq (.reg [so 5 (.faddr 0 (T 1)),so 6 (.load none (T 5)),so 7 (.bin .neq (T 6) (.const (.string ⟨#[]⟩)))])
 (.cond (T 7)
 (.reg [so 3 (.mv (.const (.int .u8 (8))))])
 .skip))
 (.seq (.reg [sm 8 3,so 9 (.bsl none [(.const (.int .u8 (31))),(.const (.int .u8 (139))),(.const (.int .u8 (8))),(T 8)]),sm 4 9])
 (.seq (.reg [sm 10 4,so 11 (.faddr 1 (T 1)),so 12 (.load none (T 11)),so 13 (.ci .u64 (T 12)),so 14 (.call true ZgP [(T 13),(C 4)]),so 15 (.app none 1 (T 10) (T 14)),sm 4 15])
 (.seq (.reg [sm 16 4,so 17 (.bslice none [(.const (.int .u8 (0))),(.const (.int .u8 (3)))]),so 18 (.app none 1 (T 16) (T 17)),sm 4 18])
 (.seq (.seq (.reg [so 19 (.faddr 0 (T 1)),so 20 (.load none (T 19)),so 21 (.bin .neq (T 20) (.const (.string ⟨#[]⟩)))])
 (.cond (T 21)
 (.seq (.reg [sm 22 4,so 23 (.faddr 0 (T 1)),so 24 (.load none (T 23)),so 25 (.apps 1 (T 22) (T 24)),sm 4 25])
 (.reg [sm 26 4,so 27 (.bslice none [(.const (.int .u8 (0)))]),so 28 (.app none 1 (T 26) (T 27)),sm 4 28]))
 .skip))
 (.seq (.reg [sm 29 4,sm 2 29])
 .ret))))))))
theorem Zrj:Zam Tryz.prog 30 (Tryz.f58.body.getD .skip)=Zmw:=by kernel_rfl
theorem Zrk:Zaf Tryz.prog Tryz.f58=some [.tmp 2]:=by kernel_rfl
def Zmx:SCode :=
 (.seq (.reg [so 2 (.alloc (List.replicate 8 (.int .u8 (0))))])
 (.seq (.reg [so 3 (.alloc (List.replicate 8 (.int .u8 (0))))])
 (.seq (.reg [so 4 (.sla 8 none (T 3) none none),sm 5 0,so 6 (.call false Zh6 [(T 5)]),so 7 (.ci .u64 (T 6)),so 8 (.call false ZgP [(T 7),(C 4)]),so 9 (.copy (T 4) (T 8))])
 (.seq (.reg [so 10 (.sla 8 none (T 3) (some (C 4)) none),sm 11 0,so 12 (.len false (T 11)),so 13 (.ci .u64 (T 12)),so 14 (.call false ZgP [(T 13),(C 4)]),so 15 (.copy (T 10) (T 14))])
 (.seq (.reg [so 16 (.load (some 8) (T 3)),sn (.store (some 8) (T 2) (T 16))])
 .ret)))))
theorem Zrl:Zam Tryz.prog 17 (Tryz.f56.body.getD .skip)=Zmx:=by kernel_rfl
theorem Zrm:Zaf Tryz.prog Tryz.f56=some [.cell 2 (some 8)]:=by kernel_rfl
def Ze8:SCode :=
 (.seq (.reg [so 4 (.mv (.const (.slice none 0 0))),so 5 (.alloc [(.string ⟨#[]⟩),(.int .i64 (0)),(.int .i64 (0))])])
 (.seq (.seq (.reg [sm 11 1,so 12 (.bin .lss (T 11) (C 0)),sm 13 12,sg 14 (.mv (T 1)) 13 false,sg 15 (.bin .gtr (T 14) (C 16777216)) 13 false,so 16 (.pick (T 13) (.const (.bool true)) (T 15))])
 (.cond (T 16)
 (.seq (.reg [so 17 (.build [(.string ⟨#[]⟩),(.int .i64 (0)),(.int .i64 (0))] [(2,1,(C 1))]),so 4 (.mv (.const (.slice none 0 0))),sn (.store (some 3) (T 5) (T 17))])
 .ret)
 .skip))
 (.seq (.reg [so 6 (.mv (.const (.slice none 0 0)))])
 (.seq (.seq (.reg [so 7 (.mv (C 0))])
 (.block 0
 (.loop
 (.seq (.seq (.reg [sm 18 7,so 19 (.bin .eql (T 18) (C 0)),sm 20 19,sg 21 (.mv (T 7)) 20 false,sg 22 (.mv (T 0)) 20 false,sg 23 (.len false (T 22)) 20 false,sg 24 (.bin .lss (T 21) (T 23)) 20 false,so 25 (.pick (T 20) (.const (.bool true)) (T 24))])
 (.cond (T 25)
 .skip
 (.exit 0)))
 (.block 1
 (.seq (.reg [sm 26 0,sm 27 7,so 28 (.sl none (T 26) (some (T 27)) none),so 29 (.build [(.slice none 0 0),(.int .i64 (0))] [(0,1,(T 28))]),so 30 (.box (T 29)),sm 8 30])
 (.seq (.reg [sm 32 8,sm 33 1,so 34 (.call true Zbe [(T 32),(T 33)]),sm 31 34,so 35 (.ext (T 31) 0),so 36 (.ext (T 31) 1),so 9 (.alloc [(.string ⟨#[]⟩),(.int .i64 (0)),(.slice none 0 0)]),sn (.store (some 3) (T 9) (T 35)),sm 10 36])
 (.seq (.seq (.reg [sm 37 10,so 38 (.bin .neq (T 37) (C 0))])
 (.cond (T 38)
 (.seq (.reg [sm 39 7,sm 40 10,so 41 (.build [(.string ⟨#[]⟩),(.int .i64 (0)),(.int .i64 (0))] [(1,1,(T 39)),(2,1,(T 40))]),so 4 (.mv (.const (.slice none 0 0))),sn (.store (some 3) (T 5) (T 41))])
 .ret)
 .skip))
 (.seq (.reg [sm 42 6,so 43 (.load (some 3) (T 9)),so 44 (.bslice (some 3) [(T 43)]),so 45 (.app (some 3) 48 (T 42) (T 44)),sm 6 45])
 (.seq (.reg [sm 46 1,so 47 (.faddr 2 (T 9)),so 48 (.load none (T 47)),so 49 (.len false (T 48)),so 50 (.bin .sub (T 46) (T 49)),sm 1 50])
 (.reg [sm 51 7,sm 52 8,so 53 (.nilc (T 52)),so 54 (.faddr 1 (T 53)),so 55 (.load none (T 54)),so 56 (.bin .add (T 51) (T 55)),sm 7 56])))))))))))
 (.seq (.reg [sm 57 6,so 58 (.build [(.string ⟨#[]⟩),(.int .i64 (0)),(.int .i64 (0))] []),sm 4 57,sn (.store (some 3) (T 5) (T 58))])
 .ret)))))
theorem Zho:Zam Tryz.prog 59 (Tryz.f10.body.getD .skip)=Ze8:=by kernel_rfl
theorem Zhp:Zaf Tryz.prog Tryz.f10=some [.tmp 4,.cell 5 (some 3)]:=by kernel_rfl
def ZbE:SCode :=
 (.seq (.reg [so 4 (.alloc [(.string ⟨#[]⟩),(.int .i64 (0)),(.slice none 0 0)]),so 5 (.mv (C 0))])
 (.seq (.reg [sm 13 0,so 14 (.call true Zb4 [(T 13)]),sm 12 14,so 15 (.ext (T 12) 0),so 16 (.ext (T 12) 1),so 17 (.ext (T 12) 2),sm 6 15,sm 7 16,sm 8 17])
 (.seq (.seq (.reg [sm 18 8,so 19 (.bin .neq (T 18) (C 0))])
 (.cond (T 19)
 (.seq (.reg [so 20 (.build [(.string ⟨#[]⟩),(.int .i64 (0)),(.slice none 0 0)] []),sm 21 8,sn (.store (some 3) (T 4) (T 20)),sm 5 21])
 .ret)
 .skip))
 (.seq (.reg [sm 23 0,sm 24 6,so 25 (.call true Zbz [(T 23),(T 24)]),sm 22 25,so 26 (.ext (T 22) 0),so 27 (.ext (T 22) 1),sm 9 26,sm 8 27])
 (.seq (.seq (.reg [sm 28 8,so 29 (.bin .neq (T 28) (C 0))])
 (.cond (T 29)
 (.seq (.reg [so 30 (.build [(.string ⟨#[]⟩),(.int .i64 (0)),(.slice none 0 0)] []),sm 31 8,sn (.store (some 3) (T 4) (T 30)),sm 5 31])
 .ret)
 .skip))
 (.seq (.reg [sm 33 0,sm 34 1,so 35 (.call true Zb3 [(T 33),(T 34)]),sm 32 35,so 36 (.ext (T 32) 0),so 37 (.ext (T 32) 1),sm 10 36,sm 8 37])
 (.seq (.seq (.reg [sm 38 8,so 39 (.bin .neq (T 38) (C 0))])
 (.cond (T 39)
 (.seq (.reg [so 40 (.build [(.string ⟨#[]⟩),(.int .i64 (0)),(.slice none 0 0)] []),sm 41 8,sn (.store (some 3) (T 4) (T 40)),sm 5 41])
 .ret)
 .skip))
 (.seq (.seq (.reg [sm 42 0,sm 43 10,so 44 (.call true ZdH [(T 42),(T 43)]),sm 11 44])
 (.seq (.reg [sm 45 11,so 46 (.bin .neq (T 45) (C 0))])
 (.cond (T 46)
 (.seq (.reg [so 47 (.build [(.string ⟨#[]⟩),(.int .i64 (0)),(.slice none 0 0)] []),sm 48 11,sn (.store (some 3) (T 4) (T 47)),sm 5 48])
 .ret)
 .skip)))
 (.seq (.reg [sm 49 9,sm 50 7,sm 51 10,so 52 (.build [(.string ⟨#[]⟩),(.int .i64 (0)),(.slice none 0 0)] [(0,1,(T 49)),(1,1,(T 50)),(2,1,(T 51))]),sn (.store (some 3) (T 4) (T 52)),so 5 (.mv (C 0))])
 .ret)))))))))
theorem ZcX:Zam Tryz.prog 53 (Tryz.f31.body.getD .skip)=ZbE:=by kernel_rfl
theorem ZcY:Zaf Tryz.prog Tryz.f31=some [.cell 4 (some 3),.tmp 5]:=by kernel_rfl
def Zb9:SCode :=
 (.seq (.reg [so 2 (.mv (.const (.int .u8 (0)))),so 3 (.mv (C 0)),so 4 (.mv (C 0))])
 (.seq (.reg [sm 9 0,so 10 (.call true ZaR [(T 9),(C 10)]),sm 8 10,so 11 (.ext (T 8) 0),so 12 (.ext (T 8) 1),sm 5 11,sm 4 12])
 (.seq (.block 0
 (.seq (.reg [sm 14 4,so 15 (.bin .neq (T 14) (C 0)),sm 13 15])
 (.cond (T 13)
 (.seq (.reg [sm 16 4,so 2 (.mv (.const (.int .u8 (0)))),so 3 (.mv (C 0)),sm 4 16])
 .ret)
 (.seq (.reg [sm 18 5,so 19 (.iaddr none (T 18) (C 0)),so 20 (.load none (T 19)),so 21 (.bin .neq (T 20) (.const (.int .u8 (31)))),sm 22 21,sg 23 (.mv (T 5)) 22 false,sg 24 (.iaddr none (T 23) (C 1)) 22 false,sg 25 (.load none (T 24)) 22 false,sg 26 (.bin .neq (T 25) (.const (.int .u8 (139)))) 22 false,so 27 (.pick (T 22) (.const (.bool true)) (T 26)),sm 17 27])
 (.cond (T 17)
 (.seq (.reg [so 2 (.mv (.const (.int .u8 (0)))),so 3 (.mv (C 0)),so 4 (.mv (C 3))])
 .ret)
 (.seq (.reg [sm 29 5,so 30 (.iaddr none (T 29) (C 2)),so 31 (.load none (T 30)),so 32 (.bin .neq (T 31) (.const (.int .u8 (8)))),sm 28 32])
 (.cond (T 28)
 (.seq (.reg [so 2 (.mv (.const (.int .u8 (0)))),so 3 (.mv (C 0)),so 4 (.mv (C 14))])
 .ret)
 (.seq (.reg [sm 34 5,so 35 (.iaddr none (T 34) (C 3)),so 36 (.load none (T 35)),so 37 (.bin .and (T 36) (.const (.int .u8 (224)))),so 38 (.bin .neq (T 37) (.const (.int .u8 (0)))),sm 33 38])
 (.cond (T 33)
 (.seq (.reg [so 2 (.mv (.const (.int .u8 (0)))),so 3 (.mv (C 0)),so 4 (.mv (C 3))])
 .ret)
 .skip)))))))))
 (.seq (.reg [sm 40 5,so 41 (.call true Zhn [(T 40),(C 4),(C 4)]),sm 39 41,so 42 (.ext (T 39) 0),so 43 (.ext (T 39) 1),sm 6 42,sm 7 43])
 (.seq (.reg [sm 44 5,so 45 (.iaddr none (T 44) (C 3)),so 46 (.load none (T 45)),sm 47 6,so 48 (.ci .i64 (T 47)),sm 2 46,sm 3 48,so 4 (.mv (C 0))])
 .ret)))))
theorem ZdK:Zam Tryz.prog 49 (Tryz.f59.body.getD .skip)=Zb9:=by kernel_rfl
theorem ZdL:Zaf Tryz.prog Tryz.f59=some [.tmp 2,.tmp 3,.tmp 4]:=by kernel_rfl
def Zca:SCode :=
 (.seq (.reg [so 4 (.mv (.const (.string ⟨#[]⟩))),so 5 (.mv (C 0))])
 (.seq (.seq (.reg [sm 6 1,so 7 (.bin .and (T 6) (.const (.int .u8 (4)))),so 8 (.bin .neq (T 7) (.const (.int .u8 (0))))])
 (.cond (T 8)
 (.reg [sm 9 0,so 10 (.call true ZbS [(T 9)]),sm 5 10])
 .skip))
 (.seq (.seq (.reg [sm 11 5,so 12 (.bin .eql (T 11) (C 0)),sm 13 12,sg 14 (.mv (T 1)) 13 true,sg 15 (.bin .and (T 14) (.const (.int .u8 (8)))) 13 true,sg 16 (.bin .neq (T 15) (.const (.int .u8 (0)))) 13 true,so 17 (.pick (T 13) (T 16) (.const (.bool false)))])
 (.cond (T 17)
 (.reg [sm 19 0,so 20 (.call true Zb5 [(T 19)]),sm 18 20,so 21 (.ext (T 18) 0),so 22 (.ext (T 18) 1),sm 4 21,sm 5 22])
 .skip))
 (.seq (.seq (.reg [sm 23 5,so 24 (.bin .eql (T 23) (C 0)),sm 25 24,sg 26 (.mv (T 1)) 25 true,sg 27 (.bin .and (T 26) (.const (.int .u8 (16)))) 25 true,sg 28 (.bin .neq (T 27) (.const (.int .u8 (0)))) 25 true,so 29 (.pick (T 25) (T 28) (.const (.bool false)))])
 (.cond (T 29)
 (.reg [sm 31 0,so 32 (.call true Zb6 [(T 31)]),sm 30 32,so 33 (.ext (T 30) 0),so 34 (.ext (T 30) 1),sm 5 34])
 .skip))
 (.seq (.seq (.reg [sm 35 5,so 36 (.bin .eql (T 35) (C 0)),sm 37 36,sg 38 (.mv (T 1)) 37 true,sg 39 (.bin .and (T 38) (.const (.int .u8 (2)))) 37 true,sg 40 (.bin .neq (T 39) (.const (.int .u8 (0)))) 37 true,so 41 (.pick (T 37) (T 40) (.const (.bool false)))])
 (.cond (T 41)
 (.reg [sm 42 0,so 43 (.call true Zcm [(T 42)]),sm 5 43])
 .skip))
 (.seq (.reg [sm 44 4,sm 45 5,sm 4 44,sm 5 45])
 .ret))))))
theorem ZdM:Zam Tryz.prog 46 (Tryz.f60.body.getD .skip)=Zca:=by kernel_rfl
theorem ZdN:Zaf Tryz.prog Tryz.f60=some [.tmp 4,.tmp 5]:=by kernel_rfl
def ZdO:SCode :=
 (.seq (.reg [so 4 (.mv (.const (.slice none 0 0))),so 5 (.mv (C 0))])
 (.seq (.reg [sm 12 0,so 13 (.nilc (T 12)),so 14 (.faddr 0 (T 13)),so 15 (.load none (T 14)),sm 16 0,so 17 (.nilc (T 16)),so 18 (.faddr 1 (T 17)),so 19 (.load none (T 18)),so 20 (.sl none (T 15) (some (T 19)) none),sm 6 20])
 (.seq (.reg [so 7 (.mv (C 4096))])
 (.block 0
 (.loop
 (.seq (.block 1
 (.seq (.reg [sm 23 6,sm 24 7,sm 25 6,so 26 (.len false (T 25)),so 27 (.mm false (T 24) [(T 26)]),so 28 (.sl none (T 23) none (some (T 27))),sm 8 28])
 (.seq (.reg [sm 30 8,sm 31 1,so 32 (.call true Za5 [(T 30),(T 31)]),sm 29 32,so 33 (.ext (T 29) 0),so 34 (.ext (T 29) 1),so 35 (.ext (T 29) 2),sm 9 33,sm 10 34,sm 11 35])
 (.seq (.seq (.reg [sm 36 11,so 37 (.bin .eql (T 36) (C 2)),sm 38 37,sg 39 (.mv (T 8)) 38 true,sg 40 (.len false (T 39)) 38 true,sg 41 (.mv (T 6)) 38 true,sg 42 (.len false (T 41)) 38 true,sg 43 (.bin .lss (T 40) (T 42)) 38 true,so 44 (.pick (T 38) (T 43) (.const (.bool false)))])
 (.cond (T 44)
 (.exit 1)
 .skip))
 (.seq (.reg [sm 45 0,so 46 (.nilc (T 45)),so 47 (.faddr 1 (T 46)),so 48 (.load none (T 47)),sm 49 10,so 50 (.bin .add (T 48) (T 49)),so 51 (.nilc (T 45)),so 52 (.faddr 1 (T 51)),sn (.store none (T 52) (T 50))])
 (.seq (.reg [sm 53 9,sm 54 11,sm 4 53,sm 5 54])
 .ret))))))
 (.reg [sm 21 7,so 22 (.bin .mul (T 21) (C 4)),sm 7 22])))))))
theorem Zgk:Zam Tryz.prog 55 (Tryz.f61.body.getD .skip)=ZdO:=by kernel_rfl
theorem Zgl:Zaf Tryz.prog Tryz.f61=some [.tmp 4,.tmp 5]:=by kernel_rfl
def ZdP:SCode :=
 (.seq (.reg [so 4 (.mv (C 0))])
 (.seq (.reg [sm 9 0,so 10 (.call true ZaR [(T 9),(C 8)]),sm 8 10,so 11 (.ext (T 8) 0),so 12 (.ext (T 8) 1),sm 5 11,sm 6 12])
 (.seq (.seq (.reg [sm 13 6,so 14 (.bin .neq (T 13) (C 0))])
 (.cond (T 14)
 (.seq (.reg [sm 15 6,sm 4 15])
 .ret)
 .skip))
 (.seq (.reg [so 7 (.alloc (List.replicate 8 (.int .u8 (0))))])
 (.seq (.reg [so 16 (.sla 8 none (T 7) none none),sm 17 5,so 18 (.copy (T 16) (T 17))])
 (.seq (.seq (.reg3 [so 19 (.load (some 8) (T 7)),sm 20 1,so 21 (.call true Zjd [(T 20)])]
 [((some 8),(T 7),19)]
 [so 22 (.aeq true (.agg #[(.int .u8 (0)),(.int .u8 (0)),(.int .u8 (0)),(.int .u8 (0)),(.int .u8 (0)),(.int .u8 (0)),(.int .u8 (0)),(.int .u8 (0))]) (T 19) (T 21))])
 (.cond (T 22)
 (.seq (.reg [so 4 (.mv (C 5))])
 .ret)
 .skip))
 (.seq (.reg [so 4 (.mv (C 0))])
 .ret)))))))
theorem Zgm:Zam Tryz.prog 23 (Tryz.f62.body.getD .skip)=ZdP:=by kernel_rfl
theorem Zgn:Zaf Tryz.prog Tryz.f62=some [.tmp 4]:=by kernel_rfl
def Zcb:SCode :=
 (.seq (.reg [so 4 (.mv (.const (.slice none 0 0))),so 5 (.mv (C 0))])
 (.seq (.seq (.reg [sm 7 0,so 8 (.nilc (T 7)),so 9 (.faddr 0 (T 8)),so 10 (.load none (T 9)),so 11 (.len false (T 10)),sm 12 0,so 13 (.nilc (T 12)),so 14 (.faddr 1 (T 13)),so 15 (.load none (T 14)),so 16 (.bin .sub (T 11) (T 15)),sm 17 1,so 18 (.bin .lss (T 16) (T 17))])
 (.cond (T 18)
 (.seq (.reg [so 4 (.mv (.const (.slice none 0 0))),so 5 (.mv (C 2))])
 .ret)
 .skip))
 (.seq (.reg [sm 19 0,so 20 (.nilc (T 19)),so 21 (.faddr 0 (T 20)),so 22 (.load none (T 21)),sm 23 0,so 24 (.nilc (T 23)),so 25 (.faddr 1 (T 24)),so 26 (.load none (T 25)),sm 27 0,so 28 (.nilc (T 27)),so 29 (.faddr 1 (T 28)),so 30 (.load none (T 29)),sm 31 1,so 32 (.bin .add (T 30) (T 31)),so 33 (.sl none (T 22) (some (T 26)) (some (T 32))),sm 6 33])
 (.seq (.reg [sm 34 0,so 35 (.nilc (T 34)),so 36 (.faddr 1 (T 35)),so 37 (.load none (T 36)),sm 38 1,so 39 (.bin .add (T 37) (T 38)),so 40 (.nilc (T 34)),so 41 (.faddr 1 (T 40)),sn (.store none (T 41) (T 39))])
 (.seq (.reg [sm 42 6,sm 4 42,so 5 (.mv (C 0))])
 .ret)))))
theorem ZdQ:Zam Tryz.prog 43 (Tryz.f104.body.getD .skip)=Zcb:=by kernel_rfl
theorem ZdR:Zaf Tryz.prog Tryz.f104=some [.tmp 4,.tmp 5]:=by kernel_rfl
def ZbT:SCode :=
 (.seq (.reg [so 2 (.mv (C 0))])
 (.seq (.reg [sm 8 0,so 9 (.call true ZaR [(T 8),(C 2)]),sm 7 9,so 10 (.ext (T 7) 0),so 11 (.ext (T 7) 1),sm 3 10,sm 4 11])
 (.seq (.seq (.reg [sm 12 4,so 13 (.bin .neq (T 12) (C 0))])
 (.cond (T 13)
 (.seq (.reg [sm 14 4,sm 2 14])
 .ret)
 .skip))
 (.seq (.reg [sm 16 3,so 17 (.call true Zhn [(T 16),(C 0),(C 2)]),sm 15 17,so 18 (.ext (T 15) 0),so 19 (.ext (T 15) 1),sm 5 18,sm 6 19])
 (.seq (.reg [sm 21 0,sm 22 5,so 23 (.ci .i64 (T 22)),so 24 (.call true ZaR [(T 21),(T 23)]),sm 20 24,so 25 (.ext (T 20) 0),so 26 (.ext (T 20) 1),sm 4 26])
 (.seq (.reg [sm 27 4,sm 2 27])
 .ret))))))
theorem Zdk:Zam Tryz.prog 28 (Tryz.f106.body.getD .skip)=ZbT:=by kernel_rfl
theorem Zdl:Zaf Tryz.prog Tryz.f106=some [.tmp 2]:=by kernel_rfl
def Zcc:SCode :=
 (.seq (.reg [so 2 (.mv (.const (.string ⟨#[]⟩))),so 3 (.mv (C 0))])
 (.seq (.reg [sm 7 0,so 8 (.call true Zb6 [(T 7)]),sm 6 8,so 9 (.ext (T 6) 0),so 10 (.ext (T 6) 1),sm 4 9,sm 5 10])
 (.seq (.seq (.reg [sm 11 5,so 12 (.bin .neq (T 11) (C 0))])
 (.cond (T 12)
 (.seq (.reg [sm 13 5,so 2 (.mv (.const (.string ⟨#[]⟩))),sm 3 13])
 .ret)
 .skip))
 (.seq (.seq (.reg [sm 14 4,so 15 (.len false (T 14)),so 16 (.bin .gtr (T 15) (C 200))])
 (.cond (T 16)
 (.seq (.reg [so 2 (.mv (.const (.string ⟨#[]⟩))),so 3 (.mv (C 10))])
 .ret)
 .skip))
 (.seq (.reg [sm 17 4,so 18 (.b2s (T 17)),sm 2 18,so 3 (.mv (C 0))])
 .ret)))))
theorem ZdS:Zam Tryz.prog 19 (Tryz.f107.body.getD .skip)=Zcc:=by kernel_rfl
theorem ZdT:Zaf Tryz.prog Tryz.f107=some [.tmp 2,.tmp 3]:=by kernel_rfl
def ZdU:SCode :=
 (.seq (.reg [so 2 (.mv (.const (.slice none 0 0))),so 3 (.mv (C 0))])
 (.seq (.reg [sm 6 0,so 7 (.nilc (T 6)),so 8 (.faddr 0 (T 7)),so 9 (.load none (T 8)),sm 10 0,so 11 (.nilc (T 10)),so 12 (.faddr 1 (T 11)),so 13 (.load none (T 12)),so 14 (.sl none (T 9) (some (T 13)) none),so 15 (.call true ZcB [(T 14),(.const (.int .u8 (0)))]),sm 4 15])
 (.seq (.seq (.reg [sm 16 4,so 17 (.bin .lss (T 16) (C 0))])
 (.cond (T 17)
 (.seq (.reg [so 2 (.mv (.const (.slice none 0 0))),so 3 (.mv (C 2))])
 .ret)
 .skip))
 (.seq (.reg [sm 18 0,so 19 (.nilc (T 18)),so 20 (.faddr 0 (T 19)),so 21 (.load none (T 20)),sm 22 0,so 23 (.nilc (T 22)),so 24 (.faddr 1 (T 23)),so 25 (.load none (T 24)),sm 26 0,so 27 (.nilc (T 26)),so 28 (.faddr 1 (T 27)),so 29 (.load none (T 28)),sm 30 4,so 31 (.bin .add (T 29) (T 30)),so 32 (.sl none (T 21) (some (T 25)) (some (T 31))),sm 5 32])
 (.seq (.reg [sm 33 0,so 34 (.nilc (T 33)),so 35 (.faddr 1 (T 34)),so 36 (.load none (T 35)),sm 37 4,so 38 (.bin .add (T 37) (C 1)),so 39 (.bin .add (T 36) (T 38)),so 40 (.nilc (T 33)),so 41 (.faddr 1 (T 40)),sn (.store none (T 41) (T 39))])
 (.seq (.reg [sm 42 5,sm 2 42,so 3 (.mv (C 0))])
 .ret))))))
theorem Zgo:Zam Tryz.prog 43 (Tryz.f108.body.getD .skip)=ZdU:=by kernel_rfl
theorem Zgp:Zaf Tryz.prog Tryz.f108=some [.tmp 2,.tmp 3]:=by kernel_rfl
def Zco:SCode :=
 (.seq (.reg [so 2 (.mv (C 0))])
 (.seq (.reg [sm 6 0,so 7 (.nilc (T 6)),so 8 (.faddr 0 (T 7)),so 9 (.load none (T 8)),sm 10 0,so 11 (.nilc (T 10)),so 12 (.faddr 1 (T 11)),so 13 (.load none (T 12)),so 14 (.sl none (T 9) none (some (T 13))),so 15 (.call true Zh6 [(T 14)]),sm 3 15])
 (.seq (.reg [sm 17 0,so 18 (.call true ZaR [(T 17),(C 2)]),sm 16 18,so 19 (.ext (T 16) 0),so 20 (.ext (T 16) 1),sm 4 19,sm 5 20])
 (.seq (.seq (.reg [sm 21 5,so 22 (.bin .neq (T 21) (C 0))])
 (.cond (T 22)
 (.seq (.reg [sm 23 5,sm 2 23])
 .ret)
 .skip))
 (.seq (.seq (.reg [sm 24 4,sm 25 3,so 26 (.ci .u64 (T 25)),so 27 (.call true ZgP [(T 26),(C 2)]),so 28 (.call true Zj3 [(T 24),(T 27)]),so 29 (.un .not (T 28))])
 (.cond (T 29)
 (.seq (.reg [so 2 (.mv (C 5))])
 .ret)
 .skip))
 (.seq (.reg [so 2 (.mv (C 0))])
 .ret))))))
theorem Zev:Zam Tryz.prog 30 (Tryz.f109.body.getD .skip)=Zco:=by kernel_rfl
theorem Zew:Zaf Tryz.prog Tryz.f109=some [.tmp 2]:=by kernel_rfl
def ZfB:SCode :=
 (.seq (.reg [so 4 (.mv (C 0))])
 (.seq (.reg [sm 5 0,sm 6 1,so 7 (.call true ZdJ [(T 5),(T 6)]),sm 4 7])
 .ret))
theorem Zje:Zam Tryz.prog 8 (Tryz.f55.body.getD .skip)=ZfB:=by kernel_rfl
theorem Zjf:Zaf Tryz.prog Tryz.f55=some [.tmp 4]:=by kernel_rfl
def Zj4:SCode :=
 (.seq (.reg [so 4 (.mv (.const (.bool false)))])
 (.seq (.reg [sm 5 0,so 6 (.b2s (T 5)),sm 7 1,so 8 (.b2s (T 7)),so 9 (.bin .eql (T 6) (T 8)),sm 4 9])
 .ret))
theorem Zoi:Zam Tryz.prog 10 (Tryz.f139.body.getD .skip)=Zj4:=by kernel_rfl
theorem Zoj:Zaf Tryz.prog Tryz.f139=some [.tmp 4]:=by kernel_rfl
def Zhq:SCode :=
 (.seq (.reg [so 2 (.mv (.const (.slice none 0 0)))])
 (.seq (.seq (.reg [sm 3 0,so 4 (.isnil false (T 3))])
 (.cond (T 4)
 (.seq (.reg [so 2 (.mv (.const (.slice none 0 0)))])
 .ret)
 .skip))
 (.seq (.reg [so 5 (.emp none),sm 6 0,so 7 (.app none 1 (T 5) (T 6)),sm 2 7])
 .ret)))
theorem Zj5:Zam Tryz.prog 8 (Tryz.f42.body.getD .skip)=Zhq:=by kernel_rfl
theorem Zj6:Zaf Tryz.prog Tryz.f42=some [.tmp 2]:=by kernel_rfl
def ZdV:SCode :=
 (.seq (.reg [so 2 (.mv (.const (.slice none 0 0)))])
 (.seq (.reg [so 3 (.mv (C 0))])
 (.seq (.seq (.reg [sm 9 0,so 10 (.len false (T 9)),so 11 (.mv (C 0))])
 (.block 0
 (.loop
 (.seq (.reg [so 12 (.bin .lss (T 11) (T 10))])
 (.seq (.cond (T 12)
 .skip
 (.exit 0))
 (.seq (.block 1
 (.seq (.reg [so 13 (.iaddr none (T 9) (T 11)),so 14 (.load none (T 13)),sm 5 14])
 (.seq (.reg [sm 15 3,sm 16 5,so 17 (.len false (T 16)),so 18 (.bin .add (T 15) (T 17)),sm 3 18])
 (.seq (.reg [sm 19 3,so 20 (.bin .lss (T 19) (C 0))])
 (.cond (T 20)
 (.reg [so 21 (.no),sn (.no)])
 .skip)))))
 (.reg [so 22 (.bin .add (T 11) (C 1)),sm 11 22])))))))
 (.seq (.reg [sm 23 3,so 24 (.call true Zeu [(.const (.slice none 0 0)),(T 23)]),sm 6 24])
 (.seq (.seq (.reg [sm 25 0,so 26 (.len false (T 25)),so 27 (.mv (C 0))])
 (.block 2
 (.loop
 (.seq (.reg [so 28 (.bin .lss (T 27) (T 26))])
 (.seq (.cond (T 28)
 .skip
 (.exit 2))
 (.seq (.block 3
 (.seq (.reg [so 29 (.iaddr none (T 25) (T 27)),so 30 (.load none (T 29)),sm 8 30])
 (.reg [sm 31 6,sm 32 8,so 33 (.app none 1 (T 31) (T 32)),sm 6 33])))
 (.reg [so 34 (.bin .add (T 27) (C 1)),sm 27 34])))))))
 (.seq (.reg [sm 35 6,sm 2 35])
 .ret))))))
theorem Zhr:Zam Tryz.prog 36 (Tryz.f57.body.getD .skip)=ZdV:=by kernel_rfl
theorem Zhs:Zaf Tryz.prog Tryz.f57=some [.tmp 2]:=by kernel_rfl
def Zex:SCode :=
 (.seq (.reg [so 4 (.mv (.const (.slice none 0 0)))])
 (.seq (.seq (.reg [sm 5 1,so 6 (.bin .lss (T 5) (C 0))])
 (.cond (T 6)
 (.reg [so 7 (.no),sn (.no)])
 .skip))
 (.seq (.seq (.reg [sm 8 1,sm 9 0,so 10 (.capn (T 9)),sm 11 0,so 12 (.len false (T 11)),so 13 (.bin .sub (T 10) (T 12)),so 14 (.bin .sub (T 8) (T 13)),sm 1 14])
 (.seq (.reg [sm 15 1,so 16 (.bin .gtr (T 15) (C 0))])
 (.cond (T 16)
 (.reg [sm 17 0,sm 18 0,so 19 (.capn (T 18)),so 20 (.sl none (T 17) none (some (T 19))),sm 21 1,so 22 (.appz none 1 [(.int .u8 (0))] (T 20) (T 21)),sm 23 0,so 24 (.len false (T 23)),so 25 (.sl none (T 22) none (some (T 24))),sm 0 25])
 .skip)))
 (.seq (.reg [sm 26 0,sm 4 26])
 .ret))))
theorem Zh8:Zam Tryz.prog 27 (Tryz.f103.body.getD .skip)=Zex:=by kernel_rfl
theorem Zh9:Zaf Tryz.prog Tryz.f103=some [.tmp 4]:=by kernel_rfl
def ZnA:SCode :=
 (.seq (.reg [so 4 (.mv (.const (.slice none 0 0)))])
 (.seq (.seq (.reg [sm 7 1,so 8 (.bin .lss (T 7) (C 1)),sm 9 8,sg 10 (.mv (T 1)) 9 false,sg 11 (.bin .gtr (T 10) (C 8)) 9 false,so 12 (.pick (T 9) (.const (.bool true)) (T 11))])
 (.cond (T 12)
 (.seq (.reg [so 4 (.mv (.const (.slice none 0 0)))])
 .ret)
 .skip))
 (.seq (.reg [sm 13 1,so 14 (.mks none 1 [(.int .u8 (0))] (T 13) (T 13)),sm 5 14])
 (.seq (.seq (.reg [sm 15 1,so 16 (.mv (C 0))])
 (.block 0
 (.loop
 (.seq (.reg [so 17 (.bin .lss (T 16) (T 15))])
 (.seq (.cond (T 17)
 .skip
 (.exit 0))
 (.seq (.block 1
 (.seq (.reg [sm 18 16,sm 6 18])
 (.reg [sm 19 5,sm 20 6,sm 21 0,sm 22 6,so 23 (.bin .mul (C 8) (T 22)),so 24 (.bin .shr (T 21) (T 23)),so 25 (.ci .u8 (T 24)),so 26 (.iaddr none (T 19) (T 20)),sn (.store none (T 26) (T 25))])))
 (.reg [so 27 (.bin .add (T 16) (C 1)),sm 16 27])))))))
 (.seq (.reg [sm 28 5,sm 4 28])
 .ret)))))
theorem Zuh:Zam Tryz.prog 29 (Tryz.f101.body.getD .skip)=ZnA:=by kernel_rfl
theorem Zui:Zaf Tryz.prog Tryz.f101=some [.tmp 4]:=by kernel_rfl
def Zj7:SCode :=
 (.seq (.reg [so 6 (.mv (.const (.int .u64 (0)))),so 7 (.mv (.const (.bool false)))])
 (.seq (.seq (.reg [sm 10 0,sm 11 1,sm 12 2,so 13 (.call true Zi3 [(T 10),(T 11),(T 12)]),so 14 (.un .not (T 13))])
 (.cond (T 14)
 (.seq (.reg [so 6 (.mv (.const (.int .u64 (0)))),so 7 (.mv (.const (.bool false)))])
 .ret)
 .skip))
 (.seq (.reg [so 8 (.mv (.const (.int .u64 (0))))])
 (.seq (.seq (.reg [sm 15 2,so 16 (.mv (C 0))])
 (.block 0
 (.loop
 (.seq (.reg [so 17 (.bin .lss (T 16) (T 15))])
 (.seq (.cond (T 17)
 .skip
 (.exit 0))
 (.seq (.block 1
 (.seq (.reg [sm 18 16,sm 9 18])
 (.reg [sm 19 8,sm 20 0,sm 21 1,sm 22 9,so 23 (.bin .add (T 21) (T 22)),so 24 (.iaddr none (T 20) (T 23)),so 25 (.load none (T 24)),so 26 (.ci .u64 (T 25)),sm 27 9,so 28 (.bin .mul (C 8) (T 27)),so 29 (.bin .shl (T 26) (T 28)),so 30 (.bin .or (T 19) (T 29)),sm 8 30])))
 (.reg [so 31 (.bin .add (T 16) (C 1)),sm 16 31])))))))
 (.seq (.reg [sm 32 8,sm 6 32,so 7 (.mv (.const (.bool true)))])
 .ret)))))
theorem Zok:Zam Tryz.prog 33 (Tryz.f105.body.getD .skip)=Zj7:=by kernel_rfl
theorem Zol:Zaf Tryz.prog Tryz.f105=some [.tmp 6,.tmp 7]:=by kernel_rfl
def Zi4:SCode :=
 (.seq (.reg [so 6 (.mv (.const (.bool false)))])
 (.seq (.seq (.reg [sm 7 2,so 8 (.bin .lss (T 7) (C 1)),sm 9 8,sg 10 (.mv (T 2)) 9 false,sg 11 (.bin .gtr (T 10) (C 8)) 9 false,so 12 (.pick (T 9) (.const (.bool true)) (T 11)),sm 13 12,sg 14 (.mv (T 1)) 13 false,sg 15 (.bin .lss (T 14) (C 0)) 13 false,so 16 (.pick (T 13) (.const (.bool true)) (T 15))])
 (.cond (T 16)
 (.seq (.reg [so 6 (.mv (.const (.bool false)))])
 .ret)
 .skip))
 (.seq (.reg [sm 17 1,sm 18 0,so 19 (.len false (T 18)),sm 20 2,so 21 (.bin .sub (T 19) (T 20)),so 22 (.bin .leq (T 17) (T 21)),sm 6 22])
 .ret)))
theorem ZmW:Zam Tryz.prog 23 (Tryz.f137.body.getD .skip)=Zi4:=by kernel_rfl
theorem ZmX:Zaf Tryz.prog Tryz.f137=some [.tmp 6]:=by kernel_rfl
def Zlk:SCode :=
 (.seq (.reg [so 2 (.mv (.const (.int .u32 (0))))])
 (.seq (.reg [sm 3 0,so 4 (.call true ZhF [(.const (.int .u32 (0))),(T 3)]),sm 2 4])
 .ret))
theorem Zpx:Zam Tryz.prog 5 (Tryz.f102.body.getD .skip)=Zlk:=by kernel_rfl
theorem Zpy:Zaf Tryz.prog Tryz.f102=some [.tmp 2]:=by kernel_rfl
def ZhK:SCode :=
 (.seq (.reg [so 4 (.mv (.const (.int .u32 (0))))])
 (.seq (.reg [sm 9 0,so 10 (.un .xor (T 9)),sm 5 10])
 (.seq (.seq (.reg [sm 11 1,so 12 (.len false (T 11)),so 13 (.mv (C 0))])
 (.block 0
 (.loop
 (.seq (.reg [so 14 (.bin .lss (T 13) (T 12))])
 (.seq (.cond (T 14)
 .skip
 (.exit 0))
 (.seq (.block 1
 (.seq (.reg [so 15 (.iaddr none (T 11) (T 13)),so 16 (.load none (T 15)),sm 7 16])
 (.seq (.reg [sm 17 5,sm 18 7,so 19 (.ci .u32 (T 18)),so 20 (.bin .xor (T 17) (T 19)),sm 5 20])
 (.seq (.reg [so 21 (.mv (C 0))])
 (.block 2
 (.loop
 (.seq (.reg [so 22 (.bin .lss (T 21) (C 8))])
 (.seq (.cond (T 22)
 .skip
 (.exit 2))
 (.seq (.block 3
 (.seq (.reg [sm 23 5,so 24 (.bin .and (T 23) (.const (.int .u32 (1)))),sm 8 24])
 (.seq (.reg [sm 25 5,so 26 (.bin .shr (T 25) (.const (.int .u64 (1)))),sm 5 26])
 (.seq (.reg [sm 27 8,so 28 (.bin .neq (T 27) (.const (.int .u32 (0))))])
 (.cond (T 28)
 (.reg [sm 29 5,so 30 (.bin .xor (T 29) (.const (.int .u32 (3988292384)))),sm 5 30])
 .skip)))))
 (.reg [so 31 (.bin .add (T 21) (C 1)),sm 21 31]))))))))))
 (.reg [so 32 (.bin .add (T 13) (C 1)),sm 13 32])))))))
 (.seq (.reg [sm 33 5,so 34 (.un .xor (T 33)),sm 4 34])
 .ret))))
theorem Zlw:Zam Tryz.prog 35 (Tryz.f136.body.getD .skip)=ZhK:=by kernel_rfl
theorem Zlx:Zaf Tryz.prog Tryz.f136=some [.tmp 4]:=by kernel_rfl
def ZgV:SCode :=
 (.seq (.reg [so 4 (.mv (.const (.slice none 0 0))),so 5 (.mv (C 0))])
 (.seq (.seq (.reg [sm 7 1,so 8 (.bin .lss (T 7) (C 0)),sm 9 8,sg 10 (.mv (T 1)) 9 false,sg 11 (.bin .gtr (T 10) (C 2)) 9 false,so 12 (.pick (T 9) (.const (.bool true)) (T 11))])
 (.cond (T 12)
 (.seq (.reg [so 4 (.mv (.const (.slice none 0 0))),so 5 (.mv (C 1))])
 .ret)
 .skip))
 (.seq (.seq (.reg [sm 13 0,so 14 (.len false (T 13)),so 15 (.bin .gtr (T 14) (C 16777216))])
 (.cond (T 15)
 (.seq (.reg [so 4 (.mv (.const (.slice none 0 0))),so 5 (.mv (C 4))])
 .ret)
 .skip))
 (.seq (.reg [so 16 (.call true ZhH []),so 17 (.build [(.pointer none)] [(0,1,(T 16))]),so 6 (.alloc [(.pointer none)]),sn (.store (some 1) (T 6) (T 17))])
 (.seq (.seq (.reg [sm 18 1])
 (.block 0
 (.seq (.reg [so 20 (.bin .eql (T 18) (C 0)),sm 19 20])
 (.cond (T 19)
 (.reg [so 21 (.load (some 1) (T 6)),sm 22 0,so 23 (.call true ZdE [(T 21),(T 22)])])
 (.seq (.reg [so 25 (.bin .eql (T 18) (C 1)),sm 24 25])
 (.cond (T 24)
 (.reg3 [so 26 (.load (some 1) (T 6)),sm 27 0,so 28 (.call true Zgg [(T 27)])]
 [((some 1),(T 6),26)]
 [so 29 (.call true ZhR [(T 26),(T 28)])])
 (.seq (.reg [so 31 (.bin .eql (T 18) (C 2)),sm 30 31])
 (.cond (T 30)
 (.reg3 [so 32 (.load (some 1) (T 6)),sm 33 0,so 34 (.call true Zgg [(T 33)])]
 [((some 1),(T 6),32)]
 [so 35 (.call true ZgQ [(T 32),(T 34)])])
 .skip))))))))
 (.seq (.reg [so 36 (.faddr 0 (T 6)),so 37 (.load none (T 36)),so 38 (.call true Zfx [(T 37)]),sm 4 38,so 5 (.mv (C 0))])
 .ret))))))
theorem ZkM:Zam Tryz.prog 39 (Tryz.f6.body.getD .skip)=ZgV:=by kernel_rfl
theorem ZkN:Zaf Tryz.prog Tryz.f6=some [.tmp 4,.tmp 5]:=by kernel_rfl
def Zej:SCode :=
 (.seq (.reg [so 4 (.mv (.const (.slice none 0 0))),so 5 (.mv (C 0)),so 6 (.mv (C 0))])
 (.seq (.seq (.reg [sm 9 1,so 10 (.bin .lss (T 9) (C 0)),sm 11 10,sg 12 (.mv (T 1)) 11 false,sg 13 (.bin .gtr (T 12) (C 16777216)) 11 false,so 14 (.pick (T 11) (.const (.bool true)) (T 13))])
 (.cond (T 14)
 (.seq (.reg [so 4 (.mv (.const (.slice none 0 0))),so 5 (.mv (C 0)),so 6 (.mv (C 1))])
 .ret)
 .skip))
 (.seq (.reg [sm 15 0,so 16 (.call true ZhG [(T 15)]),sm 17 1,so 18 (.build [(.pointer none),(.slice none 0 0),(.int .i64 (0)),(.pointer none)] [(0,1,(T 16)),(2,1,(T 17))]),so 19 (.box (T 18)),sm 7 19])
 (.seq (.seq (.reg [so 8 (.mv (.const (.bool false)))])
 (.block 0
 (.loop
 (.seq (.seq (.reg [sm 20 8,so 21 (.un .not (T 20))])
 (.cond (T 21)
 .skip
 (.exit 0)))
 (.block 1
 (.seq (.reg [sm 23 7,so 24 (.call true ZbK [(T 23)]),sm 22 24,so 25 (.ext (T 22) 0),so 26 (.ext (T 22) 1),sm 8 25,sm 6 26])
 (.seq (.reg [sm 27 6,so 28 (.bin .neq (T 27) (C 0))])
 (.cond (T 28)
 (.seq (.reg [sm 29 6,so 4 (.mv (.const (.slice none 0 0))),so 5 (.mv (C 0)),sm 6 29])
 .ret)
 .skip))))))))
 (.seq (.reg [sm 30 7,so 31 (.nilc (T 30)),so 32 (.faddr 0 (T 31)),so 33 (.load none (T 32)),so 34 (.call true ZhI [(T 33)]),so 35 (.bin .add (T 34) (C 8)),so 36 (.bin .sub (T 35) (C 1)),so 37 (.bin .quo (T 36) (C 8)),sm 5 37])
 (.seq (.reg [sm 38 7,so 39 (.nilc (T 38)),so 40 (.faddr 1 (T 39)),so 41 (.load none (T 40)),sm 42 7,so 43 (.nilc (T 42)),so 44 (.faddr 1 (T 43)),so 45 (.load none (T 44)),so 46 (.len false (T 45)),sm 47 7,so 48 (.nilc (T 47)),so 49 (.faddr 1 (T 48)),so 50 (.load none (T 49)),so 51 (.len false (T 50)),so 52 (.sl3 none (T 41) none (T 46) (T 51)),sm 53 5,sm 4 52,sm 5 53,so 6 (.mv (C 0))])
 .ret))))))
theorem ZgW:Zam Tryz.prog 54 (Tryz.f7.body.getD .skip)=Zej:=by kernel_rfl
theorem ZgX:Zaf Tryz.prog Tryz.f7=some [.tmp 4,.tmp 5,.tmp 6]:=by kernel_rfl
def Zd8:SCode :=
 (.seq (.reg [so 4 (.alloc [(.slice none 0 0),(.int .i64 (0)),(.int .i64 (0))])])
 (.seq (.seq (.reg [sm 8 1,so 9 (.bin .lss (T 8) (C 0)),sm 10 9,sg 11 (.mv (T 1)) 10 false,sg 12 (.bin .gtr (T 11) (C 16777216)) 10 false,so 13 (.pick (T 10) (.const (.bool true)) (T 12))])
 (.cond (T 13)
 (.seq (.reg [so 14 (.build [(.slice none 0 0),(.int .i64 (0)),(.int .i64 (0))] [(2,1,(C 1))]),sn (.store (some 3) (T 4) (T 14))])
 .ret)
 .skip))
 (.seq (.reg [sm 15 0,so 16 (.call true Zfu [(T 15)]),sm 17 1,so 18 (.build [(.slice none 0 0),(.int .i64 (0)),(.slice none 0 0),(.int .i64 (0)),(.int .i64 (0))] [(0,1,(T 16)),(3,1,(T 17))]),so 19 (.box (T 18)),sm 5 19])
 (.seq (.block 0
 (.loop
 (.seq (.seq (.reg [sm 20 5,so 21 (.nilc (T 20)),so 22 (.faddr 4 (T 21)),so 23 (.load none (T 22)),so 24 (.bin .eql (T 23) (C 0))])
 (.cond (T 24)
 .skip
 (.exit 0)))
 (.block 1
 (.seq (.reg [sm 25 5,so 26 (.call true Zah [(T 25),(C 1)]),sm 6 26])
 (.seq (.reg [sm 27 5,so 28 (.call true Zah [(T 27),(C 2)]),sm 7 28])
 (.seq (.seq (.reg [sm 29 5,so 30 (.nilc (T 29)),so 31 (.faddr 4 (T 30)),so 32 (.load none (T 31)),so 33 (.bin .neq (T 32) (C 0))])
 (.cond (T 33)
 (.exit 0)
 .skip))
 (.seq (.seq (.reg [sm 34 7])
 (.block 2
 (.seq (.reg [so 39 (.bin .eql (T 34) (C 0)),sm 38 39])
 (.cond (T 38)
 (.reg [sm 40 5,so 41 (.call true Zck [(T 40)])])
 (.seq (.reg [so 43 (.bin .eql (T 34) (C 1)),sm 42 43])
 (.cond (T 42)
 (.reg [sm 44 5,so 45 (.call true ZeU []),so 46 (.call true ZaC [(C 5),(C 32)]),so 47 (.call true Za4 [(T 46)]),so 48 (.call true Zbs [(T 44),(T 45),(T 47)])])
 (.seq (.reg [so 50 (.bin .eql (T 34) (C 2)),sm 49 50])
 (.cond (T 49)
 (.reg [sm 51 5,so 52 (.call true Zc1 [(T 51)])])
 (.reg [sm 35 5,so 36 (.nilc (T 35)),so 37 (.faddr 4 (T 36)),sn (.store none (T 37) (C 3))])))))))))
 (.seq (.reg [sm 53 6,so 54 (.bin .eql (T 53) (C 1)),sm 55 54,sg 56 (.mv (T 5)) 55 true,sg 57 (.nilc (T 56)) 55 true,sg 58 (.faddr 4 (T 57)) 55 true,sg 59 (.load none (T 58)) 55 true,sg 60 (.bin .eql (T 59) (C 0)) 55 true,so 61 (.pick (T 55) (T 60) (.const (.bool false)))])
 (.cond (T 61)
 (.seq (.reg [sm 62 5,so 63 (.nilc (T 62)),so 64 (.faddr 2 (T 63)),so 65 (.load none (T 64)),sm 66 5,so 67 (.nilc (T 66)),so 68 (.faddr 1 (T 67)),so 69 (.load none (T 68)),so 70 (.bin .add (T 69) (C 7)),so 71 (.bin .quo (T 70) (C 8)),so 72 (.build [(.slice none 0 0),(.int .i64 (0)),(.int .i64 (0))] [(0,1,(T 65)),(1,1,(T 71))]),sn (.store (some 3) (T 4) (T 72))])
 .ret)
 .skip))))))))))
 (.seq (.reg [sm 73 5,so 74 (.nilc (T 73)),so 75 (.faddr 4 (T 74)),so 76 (.load none (T 75)),so 77 (.build [(.slice none 0 0),(.int .i64 (0)),(.int .i64 (0))] [(2,1,(T 76))]),sn (.store (some 3) (T 4) (T 77))])
 .ret)))))
theorem ZhS:Zam Tryz.prog 78 (Tryz.f8.body.getD .skip)=Zd8:=by kernel_rfl
theorem ZhT:Zaf Tryz.prog Tryz.f8=some [.cell 4 (some 3)]:=by kernel_rfl
def ZhL:SCode :=
 (.seq (.reg [so 2 (.mv (.const (.pointer none)))])
 (.seq (.reg [sm 3 0,so 4 (.call true ZdD [(T 3)]),so 5 (.build [(.slice none 0 0),(.int .i64 (0))] [(0,1,(T 4))]),so 6 (.box (T 5)),sm 2 6])
 .ret))
theorem Zly:Zam Tryz.prog 7 (Tryz.f19.body.getD .skip)=ZhL:=by kernel_rfl
theorem Zlz:Zaf Tryz.prog Tryz.f19=some [.tmp 2]:=by kernel_rfl
def ZbL:SCode :=
 (.seq (.reg [so 2 (.mv (.const (.bool false))),so 3 (.mv (C 0))])
 (.seq (.reg [sm 8 0,so 9 (.nilc (T 8)),so 10 (.faddr 0 (T 9)),so 11 (.load none (T 10)),so 12 (.call true ZaS [(T 11),(C 3)]),sm 7 12,so 13 (.ext (T 7) 0),so 14 (.ext (T 7) 1),sm 4 13,sm 5 14])
 (.seq (.seq (.reg [sm 15 5,so 16 (.un .not (T 15))])
 (.cond (T 16)
 (.seq (.reg [so 2 (.mv (.const (.bool false))),so 3 (.mv (C 2))])
 .ret)
 .skip))
 (.seq (.seq (.reg [sm 17 4,so 18 (.bin .shr (T 17) (.const (.int .u64 (1))))])
 (.block 0
 (.seq (.reg [so 20 (.bin .eql (T 18) (C 0)),sm 19 20])
 (.cond (T 19)
 (.reg [sm 21 0,so 22 (.call true Zc3 [(T 21)]),sm 3 22])
 (.seq (.reg [so 24 (.bin .eql (T 18) (C 1)),sm 23 24])
 (.cond (T 23)
 (.seq (.seq (.reg [sm 25 0,so 26 (.nilc (T 25)),so 27 (.faddr 3 (T 26)),so 28 (.load none (T 27)),so 29 (.isnilp false (T 28))])
 (.cond (T 29)
 (.reg [sm 30 0,so 31 (.call true ZeV []),so 32 (.nilc (T 30)),so 33 (.faddr 3 (T 32)),sn (.store none (T 33) (T 31))])
 .skip))
 (.reg [sm 34 0,sm 35 0,so 36 (.nilc (T 35)),so 37 (.faddr 3 (T 36)),so 38 (.load none (T 37)),so 39 (.call true Zbu [(T 34),(T 38)]),sm 3 39]))
 (.seq (.reg [so 41 (.bin .eql (T 18) (C 2)),sm 40 41])
 (.cond (T 40)
 (.seq (.reg [so 6 (.mv (.const (.pointer none)))])
 (.seq (.reg [sm 43 0,so 44 (.call true Zb8 [(T 43)]),sm 42 44,so 45 (.ext (T 42) 0),so 46 (.ext (T 42) 1),sm 6 45,sm 3 46])
 (.seq (.reg [sm 47 3,so 48 (.bin .eql (T 47) (C 0))])
 (.cond (T 48)
 (.reg [sm 49 0,sm 50 6,so 51 (.call true Zbu [(T 49),(T 50)]),sm 3 51])
 .skip))))
 (.reg [so 3 (.mv (C 3))])))))))))
 (.seq (.reg [sm 52 4,so 53 (.bin .and (T 52) (C 1)),so 54 (.bin .eql (T 53) (C 1)),sm 55 3,sm 2 54,sm 3 55])
 .ret)))))
theorem Zdt:Zam Tryz.prog 56 (Tryz.f20.body.getD .skip)=ZbL:=by kernel_rfl
theorem Zdu:Zaf Tryz.prog Tryz.f20=some [.tmp 2,.tmp 3]:=by kernel_rfl
def ZhM:SCode :=
 (.seq (.reg [so 2 (.mv (C 0))])
 (.seq (.reg [sm 3 0,so 4 (.nilc (T 3)),so 5 (.faddr 1 (T 4)),so 6 (.load none (T 5)),sm 2 6])
 .ret))
theorem ZlA:Zam Tryz.prog 7 (Tryz.f21.body.getD .skip)=ZhM:=by kernel_rfl
theorem ZlB:Zaf Tryz.prog Tryz.f21=some [.tmp 2]:=by kernel_rfl
def ZfC:SCode :=
 (.seq (.reg [so 2 (.mv (.const (.slice none 0 0)))])
 (.seq (.reg [so 3 (.mv (.const (.slice none 0 0)))])
 (.seq (.seq (.reg [so 4 (.mv (C 0))])
 (.block 0
 (.loop
 (.seq (.seq (.reg [sm 7 4,sm 8 0,so 9 (.len false (T 8)),so 10 (.bin .lss (T 7) (T 9))])
 (.cond (T 10)
 .skip
 (.exit 0)))
 (.seq (.block 1
 (.seq (.reg [sm 13 0,sm 14 4,so 15 (.iaddr none (T 13) (T 14)),so 16 (.load none (T 15)),so 17 (.ci .i64 (T 16)),sm 5 17])
 (.seq (.reg [so 6 (.mv (C 0))])
 (.block 2
 (.loop
 (.seq (.seq (.reg [sm 18 6,so 19 (.bin .lss (T 18) (C 8))])
 (.cond (T 19)
 .skip
 (.exit 2)))
 (.seq (.block 3
 (.seq (.reg [sm 22 3,sm 23 5,so 24 (.bin .rem (T 23) (C 2)),so 25 (.bslice none [(T 24)]),so 26 (.app none 8 (T 22) (T 25)),sm 3 26])
 (.reg [sm 27 5,so 28 (.bin .quo (T 27) (C 2)),sm 5 28])))
 (.reg [sm 20 6,so 21 (.bin .add (T 20) (C 1)),sm 6 21]))))))))
 (.reg [sm 11 4,so 12 (.bin .add (T 11) (C 1)),sm 4 12]))))))
 (.seq (.reg [sm 29 3,sm 2 29])
 .ret))))
theorem Zjg:Zam Tryz.prog 30 (Tryz.f22.body.getD .skip)=ZfC:=by kernel_rfl
theorem Zjh:Zaf Tryz.prog Tryz.f22=some [.tmp 2]:=by kernel_rfl
def Zcp:SCode :=
 (.seq (.reg [so 4 (.mv (C 0))])
 (.seq (.seq (.reg [sm 5 0,so 6 (.nilc (T 5)),so 7 (.faddr 4 (T 6)),so 8 (.load none (T 7)),so 9 (.bin .neq (T 8) (C 0))])
 (.cond (T 9)
 (.seq (.reg [so 4 (.mv (C 0))])
 .ret)
 .skip))
 (.seq (.seq (.reg [sm 10 1,sm 11 0,so 12 (.nilc (T 11)),so 13 (.faddr 0 (T 12)),so 14 (.load none (T 13)),so 15 (.len false (T 14)),sm 16 0,so 17 (.nilc (T 16)),so 18 (.faddr 1 (T 17)),so 19 (.load none (T 18)),so 20 (.bin .sub (T 15) (T 19)),so 21 (.bin .gtr (T 10) (T 20))])
 (.cond (T 21)
 (.seq (.reg [sm 22 0,so 23 (.nilc (T 22)),so 24 (.faddr 4 (T 23)),sn (.store none (T 24) (C 2))])
 (.seq (.reg [so 4 (.mv (C 0))])
 .ret))
 .skip))
 (.seq (.reg [sm 25 0,sm 26 0,so 27 (.nilc (T 26)),so 28 (.faddr 1 (T 27)),so 29 (.load none (T 28)),sm 30 1,so 31 (.bin .add (T 29) (T 30)),so 32 (.nilc (T 25)),so 33 (.faddr 1 (T 32)),sn (.store none (T 33) (T 31))])
 (.seq (.reg [sm 34 0,so 35 (.nilc (T 34)),so 36 (.faddr 0 (T 35)),so 37 (.load none (T 36)),sm 38 0,so 39 (.nilc (T 38)),so 40 (.faddr 1 (T 39)),so 41 (.load none (T 40)),sm 42 1,so 43 (.bin .sub (T 41) (T 42)),sm 44 0,so 45 (.nilc (T 44)),so 46 (.faddr 1 (T 45)),so 47 (.load none (T 46)),so 48 (.sl none (T 37) (some (T 43)) (some (T 47))),so 49 (.call true Zer [(T 48)]),sm 4 49])
 .ret)))))
theorem ZfD:Zam Tryz.prog 50 (Tryz.f23.body.getD .skip)=Zcp:=by kernel_rfl
theorem ZfE:Zaf Tryz.prog Tryz.f23=some [.tmp 4]:=by kernel_rfl
def Zcq:SCode :=
 (.seq (.block 0
 (.loop
 (.seq (.seq (.reg [sm 5 0,so 6 (.nilc (T 5)),so 7 (.faddr 1 (T 6)),so 8 (.load none (T 7)),so 9 (.bin .rem (T 8) (C 8)),so 10 (.bin .neq (T 9) (C 0))])
 (.cond (T 10)
 .skip
 (.exit 0)))
 (.block 1
 (.reg [sm 11 0,sm 12 0,so 13 (.nilc (T 12)),so 14 (.faddr 1 (T 13)),so 15 (.load none (T 14)),so 16 (.bin .add (T 15) (C 1)),so 17 (.nilc (T 11)),so 18 (.faddr 1 (T 17)),sn (.store none (T 18) (T 16))])))))
 (.seq (.reg [sm 19 0,so 20 (.call true Zah [(T 19),(C 16)]),sm 2 20])
 (.seq (.reg [sm 21 0,so 22 (.call true Zah [(T 21),(C 16)]),sm 3 22])
 (.seq (.reg [sm 23 0,sm 24 3,sm 25 2,so 26 (.bin .sub (C 65535) (T 25)),so 27 (.bin .neq (T 24) (T 26)),so 28 (.call true Zar [(T 23),(T 27),(C 3)])])
 (.seq (.seq (.reg [sm 29 0,so 30 (.nilc (T 29)),so 31 (.faddr 4 (T 30)),so 32 (.load none (T 31)),so 33 (.bin .neq (T 32) (C 0))])
 (.cond (T 33)
 .ret
 .skip))
 (.seq (.seq (.reg [sm 34 2,so 35 (.bin .mul (C 8) (T 34)),sm 36 0,so 37 (.nilc (T 36)),so 38 (.faddr 0 (T 37)),so 39 (.load none (T 38)),so 40 (.len false (T 39)),sm 41 0,so 42 (.nilc (T 41)),so 43 (.faddr 1 (T 42)),so 44 (.load none (T 43)),so 45 (.bin .sub (T 40) (T 44)),so 46 (.bin .gtr (T 35) (T 45))])
 (.cond (T 46)
 (.seq (.reg [sm 47 0,so 48 (.nilc (T 47)),so 49 (.faddr 4 (T 48)),sn (.store none (T 49) (C 2))])
 .ret)
 .skip))
 (.seq (.seq (.reg [sm 50 2,sm 51 0,so 52 (.nilc (T 51)),so 53 (.faddr 3 (T 52)),so 54 (.load none (T 53)),sm 55 0,so 56 (.nilc (T 55)),so 57 (.faddr 2 (T 56)),so 58 (.load none (T 57)),so 59 (.len false (T 58)),so 60 (.bin .sub (T 54) (T 59)),so 61 (.bin .gtr (T 50) (T 60))])
 (.cond (T 61)
 (.seq (.reg [sm 62 0,so 63 (.nilc (T 62)),so 64 (.faddr 4 (T 63)),sn (.store none (T 64) (C 4))])
 .ret)
 .skip))
 (.seq (.reg [so 4 (.mv (C 0))])
 (.block 2
 (.loop
 (.seq (.seq (.reg [sm 65 4,sm 66 2,so 67 (.bin .lss (T 65) (T 66))])
 (.cond (T 67)
 .skip
 (.exit 2)))
 (.seq (.block 3
 (.reg3 [sm 70 0,sm 71 0,so 72 (.nilc (T 71)),so 73 (.faddr 2 (T 72)),so 74 (.load none (T 73)),sm 75 0,so 76 (.call true Zah [(T 75),(C 8)])]
 [(none,(T 73),74)]
 [so 77 (.ci .u8 (T 76)),so 78 (.bslice none [(T 77)]),so 79 (.app none 1 (T 74) (T 78)),so 80 (.nilc (T 70)),so 81 (.faddr 2 (T 80)),sn (.store none (T 81) (T 79))]))
 (.reg [sm 68 4,so 69 (.bin .add (T 68) (C 1)),sm 4 69])))))))))))))
theorem ZfF:Zam Tryz.prog 82 (Tryz.f24.body.getD .skip)=Zcq:=by kernel_rfl
theorem ZfG:Zaf Tryz.prog Tryz.f24=some []:=by kernel_rfl
def ZcK:SCode :=
 (.seq (.reg [so 4 (.box (T 1)),so 5 (.box (T 2))])
 (.block 0
 (.loop
 (.seq (.seq (.reg [sm 11 0,so 12 (.nilc (T 11)),so 13 (.faddr 4 (T 12)),so 14 (.load none (T 13)),so 15 (.bin .eql (T 14) (C 0))])
 (.cond (T 15)
 .skip
 (.exit 0)))
 (.block 1
 (.seq (.reg [sm 16 0,so 17 (.load (some 2) (T 4)),so 18 (.call true Za0 [(T 16),(T 17)]),sm 6 18])
 (.seq (.seq (.reg [sm 19 0,so 20 (.nilc (T 19)),so 21 (.faddr 4 (T 20)),so 22 (.load none (T 21)),so 23 (.bin .neq (T 22) (C 0)),sm 24 23,sg 25 (.mv (T 6)) 24 false,sg 26 (.bin .eql (T 25) (C 256)) 24 false,so 27 (.pick (T 24) (.const (.bool true)) (T 26))])
 (.cond (T 27)
 .ret
 .skip))
 (.seq (.seq (.reg [sm 28 6,so 29 (.bin .lss (T 28) (C 256))])
 (.cond (T 29)
 (.seq (.reg [sm 30 0,sm 31 0,so 32 (.nilc (T 31)),so 33 (.faddr 2 (T 32)),so 34 (.load none (T 33)),so 35 (.len false (T 34)),sm 36 0,so 37 (.nilc (T 36)),so 38 (.faddr 3 (T 37)),so 39 (.load none (T 38)),so 40 (.bin .geq (T 35) (T 39)),so 41 (.call true Zar [(T 30),(T 40),(C 4)])])
 (.seq (.reg [sm 42 0,sm 43 0,so 44 (.nilc (T 43)),so 45 (.faddr 2 (T 44)),so 46 (.load none (T 45)),sm 47 6,so 48 (.ci .u8 (T 47)),so 49 (.bslice none [(T 48)]),so 50 (.app none 1 (T 46) (T 49)),so 51 (.nilc (T 42)),so 52 (.faddr 2 (T 51)),sn (.store none (T 52) (T 50))])
 (.exit 1)))
 .skip))
 (.seq (.reg [sm 53 0,sm 54 6,so 55 (.bin .gtr (T 54) (C 285)),so 56 (.call true Zar [(T 53),(T 55),(C 3)])])
 (.seq (.seq (.reg [sm 57 0,so 58 (.nilc (T 57)),so 59 (.faddr 4 (T 58)),so 60 (.load none (T 59)),so 61 (.bin .neq (T 60) (C 0))])
 (.cond (T 61)
 .ret
 .skip))
 (.seq (.reg [sm 62 0,sm 63 6,so 64 (.call true Zcj [(T 62),(T 63)]),sm 7 64])
 (.seq (.reg [sm 65 0,so 66 (.load (some 2) (T 5)),so 67 (.call true Za0 [(T 65),(T 66)]),sm 8 67])
 (.seq (.reg [sm 68 0,sm 69 8,so 70 (.bin .gtr (T 69) (C 29)),so 71 (.call true Zar [(T 68),(T 70),(C 3)])])
 (.seq (.seq (.reg [sm 72 0,so 73 (.nilc (T 72)),so 74 (.faddr 4 (T 73)),so 75 (.load none (T 74)),so 76 (.bin .neq (T 75) (C 0))])
 (.cond (T 76)
 .ret
 .skip))
 (.seq (.reg [sm 77 0,sm 78 8,so 79 (.call true ZbX [(T 77),(T 78)]),sm 9 79])
 (.seq (.reg [sm 80 0,sm 81 9,sm 82 0,so 83 (.nilc (T 82)),so 84 (.faddr 2 (T 83)),so 85 (.load none (T 84)),so 86 (.len false (T 85)),so 87 (.bin .gtr (T 81) (T 86)),so 88 (.call true Zar [(T 80),(T 87),(C 3)])])
 (.seq (.reg [sm 89 0,sm 90 7,sm 91 0,so 92 (.nilc (T 91)),so 93 (.faddr 3 (T 92)),so 94 (.load none (T 93)),sm 95 0,so 96 (.nilc (T 95)),so 97 (.faddr 2 (T 96)),so 98 (.load none (T 97)),so 99 (.len false (T 98)),so 100 (.bin .sub (T 94) (T 99)),so 101 (.bin .gtr (T 90) (T 100)),so 102 (.call true Zar [(T 89),(T 101),(C 4)])])
 (.seq (.reg [so 10 (.mv (C 0))])
 (.block 2
 (.loop
 (.seq (.seq (.reg [sm 103 10,sm 104 7,so 105 (.bin .lss (T 103) (T 104)),sm 106 105,sg 107 (.mv (T 0)) 106 true,sg 108 (.nilc (T 107)) 106 true,sg 109 (.faddr 4 (T 108)) 106 true,sg 110 (.load none (T 109)) 106 true,sg 111 (.bin .eql (T 110) (C 0)) 106 true,so 112 (.pick (T 106) (T 111) (.const (.bool false)))])
 (.cond (T 112)
 .skip
 (.exit 2)))
 (.seq (.block 3
 (.reg [sm 115 0,sm 116 0,so 117 (.nilc (T 116)),so 118 (.faddr 2 (T 117)),so 119 (.load none (T 118)),sm 120 0,so 121 (.nilc (T 120)),so 122 (.faddr 2 (T 121)),so 123 (.load none (T 122)),sm 124 0,so 125 (.nilc (T 124)),so 126 (.faddr 2 (T 125)),so 127 (.load none (T 126)),so 128 (.len false (T 127)),sm 129 9,so 130 (.bin .sub (T 128) (T 129)),so 131 (.iaddr none (T 123) (T 130)),so 132 (.load none (T 131)),so 133 (.bslice none [(T 132)]),so 134 (.app none 1 (T 119) (T 133)),so 135 (.nilc (T 115)),so 136 (.faddr 2 (T 135)),sn (.store none (T 136) (T 134))]))
 (.reg [sm 113 10,so 114 (.bin .add (T 113) (C 1)),sm 10 114])))))))))))))))))))))))
theorem Zf5:Zam Tryz.prog 137 (Tryz.f25.body.getD .skip)=ZcK:=by kernel_rfl
theorem Zf6:Zaf Tryz.prog Tryz.f25=some []:=by kernel_rfl
def ZeX:SCode :=
 (.seq (.reg [so 0 (.alloc [(.slice none 0 0),(.slice none 0 0)])])
 (.seq (.reg [so 2 (.call true ZaC [(C 8),(C 144)]),so 3 (.call true ZaC [(C 9),(C 112)]),so 4 (.app none 8 (T 2) (T 3)),sm 1 4])
 (.seq (.reg [sm 5 1,so 6 (.call true ZaC [(C 7),(C 24)]),so 7 (.app none 8 (T 5) (T 6)),sm 1 7])
 (.seq (.reg [sm 8 1,so 9 (.call true ZaC [(C 8),(C 8)]),so 10 (.app none 8 (T 8) (T 9)),so 11 (.call true Za4 [(T 10)]),sn (.store (some 2) (T 0) (T 11))])
 .ret))))
theorem ZiI:Zam Tryz.prog 12 (Tryz.f26.body.getD .skip)=ZeX:=by kernel_rfl
theorem ZiJ:Zaf Tryz.prog Tryz.f26=some [.cell 0 (some 2)]:=by kernel_rfl
def ZfH:SCode :=
 (.seq (.reg [so 2 (.alloc [(.slice none 0 0),(.slice none 0 0)])])
 (.seq (.reg [sm 6 0,so 7 (.call true ZcU [(T 6)]),sm 5 7,so 8 (.ext (T 5) 0),so 9 (.ext (T 5) 1),sm 3 8,sm 4 9])
 (.seq (.reg [sm 10 0,sm 11 3,so 12 (.build [(.slice none 0 0),(.slice none 0 0)] [(0,1,(T 10)),(1,1,(T 11))]),sn (.store (some 2) (T 2) (T 12))])
 .ret)))
theorem Zji:Zam Tryz.prog 13 (Tryz.f27.body.getD .skip)=ZfH:=by kernel_rfl
theorem Zjj:Zaf Tryz.prog Tryz.f27=some [.cell 2 (some 2)]:=by kernel_rfl
def ZeY:SCode :=
 (.seq (.reg [so 4 (.mv (.const (.slice none 0 0)))])
 (.seq (.reg [so 5 (.mv (.const (.slice none 0 0)))])
 (.seq (.seq (.reg [so 6 (.mv (C 0))])
 (.block 0
 (.loop
 (.seq (.seq (.reg [sm 7 6,sm 8 1,so 9 (.bin .lss (T 7) (T 8))])
 (.cond (T 9)
 .skip
 (.exit 0)))
 (.seq (.block 1
 (.reg [sm 12 5,sm 13 0,so 14 (.bslice none [(T 13)]),so 15 (.app none 8 (T 12) (T 14)),sm 5 15]))
 (.reg [sm 10 6,so 11 (.bin .add (T 10) (C 1)),sm 6 11]))))))
 (.seq (.reg [sm 16 5,sm 4 16])
 .ret))))
theorem ZiK:Zam Tryz.prog 17 (Tryz.f28.body.getD .skip)=ZeY:=by kernel_rfl
theorem ZiL:Zaf Tryz.prog Tryz.f28=some [.tmp 4]:=by kernel_rfl
def Zc5:SCode :=
 (.seq (.reg [sm 16 0,so 17 (.call true Zah [(T 16),(C 5)]),so 18 (.bin .add (T 17) (C 257)),sm 2 18])
 (.seq (.reg [sm 19 0,so 20 (.call true Zah [(T 19),(C 5)]),so 21 (.bin .add (T 20) (C 1)),sm 3 21])
 (.seq (.reg [sm 22 0,so 23 (.call true Zah [(T 22),(C 4)]),so 24 (.bin .add (T 23) (C 4)),sm 4 24])
 (.seq (.reg [sm 25 0,sm 26 2,so 27 (.bin .gtr (T 26) (C 286)),sm 28 27,sg 29 (.mv (T 3)) 28 false,sg 30 (.bin .gtr (T 29) (C 30)) 28 false,so 31 (.pick (T 28) (.const (.bool true)) (T 30)),so 32 (.call true Zar [(T 25),(T 31),(C 3)])])
 (.seq (.reg [so 33 (.bsl none [(C 16),(C 17),(C 18),(C 0),(C 8),(C 7),(C 9),(C 6),(C 10),(C 5),(C 11),(C 4),(C 12),(C 3),(C 13),(C 2),(C 14),(C 1),(C 15)]),sm 5 33])
 (.seq (.reg [so 34 (.call true ZaC [(C 0),(C 19)]),sm 6 34])
 (.seq (.seq (.reg [so 7 (.mv (C 0))])
 (.block 0
 (.loop
 (.seq (.seq (.reg [sm 35 7,sm 36 4,so 37 (.bin .lss (T 35) (T 36))])
 (.cond (T 37)
 .skip
 (.exit 0)))
 (.seq (.block 1
 (.reg3 [sm 40 6,sm 41 5,sm 42 7,so 43 (.iaddr none (T 41) (T 42)),so 44 (.load none (T 43)),sm 45 0,so 46 (.call true Zah [(T 45),(C 3)])]
 [(none,(T 43),44)]
 [so 47 (.iaddr none (T 40) (T 44)),sn (.store none (T 47) (T 46))]))
 (.reg [sm 38 7,so 39 (.bin .add (T 38) (C 1)),sm 7 39]))))))
 (.seq (.reg [sm 48 0,sm 49 6,so 50 (.call true Zbp [(T 49)]),so 51 (.un .not (T 50)),so 52 (.call true Zar [(T 48),(T 51),(C 3)])])
 (.seq (.seq (.reg [sm 53 0,so 54 (.nilc (T 53)),so 55 (.faddr 4 (T 54)),so 56 (.load none (T 55)),so 57 (.bin .neq (T 56) (C 0))])
 (.cond (T 57)
 .ret
 .skip))
 (.seq (.reg [sm 58 6,so 59 (.call true Za4 [(T 58)]),so 8 (.alloc [(.slice none 0 0),(.slice none 0 0)]),sn (.store (some 2) (T 8) (T 59))])
 (.seq (.reg [so 9 (.mv (.const (.slice none 0 0)))])
 (.seq (.block 2
 (.loop
 (.seq (.seq (.reg [sm 60 9,so 61 (.len false (T 60)),sm 62 2,sm 63 3,so 64 (.bin .add (T 62) (T 63)),so 65 (.bin .lss (T 61) (T 64)),sm 66 65,sg 67 (.mv (T 0)) 66 true,sg 68 (.nilc (T 67)) 66 true,sg 69 (.faddr 4 (T 68)) 66 true,sg 70 (.load none (T 69)) 66 true,sg 71 (.bin .eql (T 70) (C 0)) 66 true,so 72 (.pick (T 66) (T 71) (.const (.bool false)))])
 (.cond (T 72)
 .skip
 (.exit 2)))
 (.block 3
 (.seq (.reg [sm 73 0,so 74 (.load (some 2) (T 8)),so 75 (.call true Za0 [(T 73),(T 74)]),sm 10 75])
 (.seq (.reg [sm 76 10,sm 11 76])
 (.seq (.reg [so 12 (.mv (C 1))])
 (.seq (.seq (.reg [sm 77 10,so 78 (.bin .eql (T 77) (C 16))])
 (.cond (T 78)
 (.seq (.reg [sm 79 0,sm 80 9,so 81 (.len false (T 80)),so 82 (.bin .eql (T 81) (C 0)),so 83 (.call true Zar [(T 79),(T 82),(C 3)])])
 (.seq (.reg [so 11 (.mv (C 0))])
 (.seq (.seq (.reg [sm 84 9,so 85 (.len false (T 84)),so 86 (.bin .gtr (T 85) (C 0))])
 (.cond (T 86)
 (.reg [sm 87 9,sm 88 9,so 89 (.len false (T 88)),so 90 (.bin .sub (T 89) (C 1)),so 91 (.iaddr none (T 87) (T 90)),so 92 (.load none (T 91)),sm 11 92])
 .skip))
 (.reg [sm 93 0,so 94 (.call true Zah [(T 93),(C 2)]),so 95 (.bin .add (C 3) (T 94)),sm 12 95]))))
 .skip))
 (.seq (.seq (.reg [sm 96 10,so 97 (.bin .eql (T 96) (C 17))])
 (.cond (T 97)
 (.seq (.reg [so 11 (.mv (C 0))])
 (.reg [sm 98 0,so 99 (.call true Zah [(T 98),(C 3)]),so 100 (.bin .add (C 3) (T 99)),sm 12 100]))
 .skip))
 (.seq (.seq (.reg [sm 101 10,so 102 (.bin .eql (T 101) (C 18))])
 (.cond (T 102)
 (.seq (.reg [so 11 (.mv (C 0))])
 (.reg [sm 103 0,so 104 (.call true Zah [(T 103),(C 7)]),so 105 (.bin .add (C 11) (T 104)),sm 12 105]))
 .skip))
 (.seq (.reg [sm 106 0,sm 107 12,sm 108 2,sm 109 3,so 110 (.bin .add (T 108) (T 109)),sm 111 9,so 112 (.len false (T 111)),so 113 (.bin .sub (T 110) (T 112)),so 114 (.bin .gtr (T 107) (T 113)),so 115 (.call true Zar [(T 106),(T 114),(C 3)])])
 (.reg [sm 116 9,sm 117 11,sm 118 12,so 119 (.call true ZaC [(T 117),(T 118)]),so 120 (.app none 8 (T 116) (T 119)),sm 9 120]))))))))))))
 (.seq (.seq (.reg [sm 121 0,so 122 (.nilc (T 121)),so 123 (.faddr 4 (T 122)),so 124 (.load none (T 123)),so 125 (.bin .neq (T 124) (C 0))])
 (.cond (T 125)
 .ret
 .skip))
 (.seq (.reg [so 13 (.mv (C 0))])
 (.seq (.reg [so 14 (.mv (C 0))])
 (.seq (.seq (.reg [sm 126 2,sm 15 126])
 (.block 4
 (.loop
 (.seq (.seq (.reg [sm 127 15,sm 128 2,sm 129 3,so 130 (.bin .add (T 128) (T 129)),so 131 (.bin .lss (T 127) (T 130))])
 (.cond (T 131)
 .skip
 (.exit 4)))
 (.seq (.block 5
 (.seq (.seq (.reg [sm 134 9,sm 135 15,so 136 (.iaddr none (T 134) (T 135)),so 137 (.load none (T 136)),so 138 (.bin .gtr (T 137) (C 0))])
 (.cond (T 138)
 (.reg [sm 139 13,so 140 (.bin .add (T 139) (C 1)),sm 13 140])
 .skip))
 (.seq (.reg [sm 141 9,sm 142 15,so 143 (.iaddr none (T 141) (T 142)),so 144 (.load none (T 143)),sm 145 14,so 146 (.bin .gtr (T 144) (T 145))])
 (.cond (T 146)
 (.reg [sm 147 9,sm 148 15,so 149 (.iaddr none (T 147) (T 148)),so 150 (.load none (T 149)),sm 14 150])
 .skip))))
 (.reg [sm 132 15,so 133 (.bin .add (T 132) (C 1)),sm 15 133]))))))
 (.seq (.seq (.reg [sm 151 9,so 152 (.iaddr none (T 151) (C 256)),so 153 (.load none (T 152)),so 154 (.bin .eql (T 153) (C 0)),sm 155 154,sg 156 (.mv (T 9)) 155 false,sg 157 (.mv (T 2)) 155 false,sg 158 (.sl none (T 156) none (some (T 157))) 155 false,sg 159 (.call true Zbp [(T 158)]) 155 false,sg 160 (.un .not (T 159)) 155 false,so 161 (.pick (T 155) (.const (.bool true)) (T 160)),sm 162 161,sg 163 (.mv (T 9)) 162 false,sg 164 (.mv (T 2)) 162 false,sg 165 (.sl none (T 163) (some (T 164)) none) 162 false,sg 166 (.call true Zbp [(T 165)]) 162 false,sg 167 (.un .not (T 166)) 162 false,sg 168 (.mv (T 167)) 162 false,sg 169 (.mv (T 13)) 168 true,sg 170 (.bin .gtr (T 169) (C 1)) 168 true,sg 171 (.mv (T 170)) 168 true,sg 172 (.mv (T 14)) 171 false,sg 173 (.bin .gtr (T 172) (C 1)) 171 false,sg 174 (.pick (T 171) (.const (.bool true)) (T 173)) 168 true,sg 175 (.pick (T 168) (T 174) (.const (.bool false))) 162 false,so 176 (.pick (T 162) (.const (.bool true)) (T 175))])
 (.cond (T 176)
 (.seq (.reg [sm 177 0,so 178 (.nilc (T 177)),so 179 (.faddr 4 (T 178)),sn (.store none (T 179) (C 3))])
 .ret)
 .skip))
 (.reg [sm 180 0,sm 181 9,sm 182 2,so 183 (.sl none (T 181) none (some (T 182))),so 184 (.call true Za4 [(T 183)]),sm 185 9,sm 186 2,so 187 (.sl none (T 185) (some (T 186)) none),so 188 (.call true Za4 [(T 187)]),so 189 (.call true Zbs [(T 180),(T 184),(T 188)])]))))))))))))))))))
theorem ZgA:Zam Tryz.prog 190 (Tryz.f29.body.getD .skip)=Zc5:=by kernel_rfl
theorem ZgB:Zaf Tryz.prog Tryz.f29=some []:=by kernel_rfl
def ZdW:SCode :=
 (.seq (.reg [so 4 (.mv (C 0)),so 5 (.mv (.const (.bool false)))])
 (.seq (.seq (.reg [sm 8 1,so 9 (.bin .lss (T 8) (C 0)),sm 10 9,sg 11 (.mv (T 1)) 10 false,sg 12 (.bin .gtr (T 11) (C 24)) 10 false,so 13 (.pick (T 10) (.const (.bool true)) (T 12)),sm 14 13,sg 15 (.mv (T 1)) 14 false,sg 16 (.mv (T 0)) 14 false,sg 17 (.call true Zb7 [(T 16)]) 14 false,sg 18 (.bin .gtr (T 15) (T 17)) 14 false,so 19 (.pick (T 14) (.const (.bool true)) (T 18))])
 (.cond (T 19)
 (.seq (.reg [so 4 (.mv (C 0)),so 5 (.mv (.const (.bool false)))])
 .ret)
 .skip))
 (.seq (.reg [so 6 (.mv (C 0))])
 (.seq (.seq (.reg [sm 20 1,so 21 (.mv (C 0))])
 (.block 0
 (.loop
 (.seq (.reg [so 22 (.bin .lss (T 21) (T 20))])
 (.seq (.cond (T 22)
 .skip
 (.exit 0))
 (.seq (.block 1
 (.seq (.reg [sm 23 21,sm 7 23])
 (.reg [sm 24 6,sm 25 0,so 26 (.call true Zei [(T 25)]),sm 27 7,so 28 (.bin .shl (T 26) (T 27)),so 29 (.bin .or (T 24) (T 28)),sm 6 29])))
 (.reg [so 30 (.bin .add (T 21) (C 1)),sm 21 30])))))))
 (.seq (.reg [sm 31 6,sm 4 31,so 5 (.mv (.const (.bool true)))])
 .ret)))))
theorem Zgq:Zam Tryz.prog 32 (Tryz.f43.body.getD .skip)=ZdW:=by kernel_rfl
theorem Zgr:Zaf Tryz.prog Tryz.f43=some [.tmp 4,.tmp 5]:=by kernel_rfl
def Zc6:SCode :=
 (.seq (.reg [so 2 (.mv (C 0))])
 (.seq (.reg [sm 7 0,so 8 (.nilc (T 7)),so 9 (.faddr 0 (T 8)),so 10 (.load none (T 9)),so 11 (.call true Zdh [(T 10)])])
 (.seq (.reg [sm 13 0,so 14 (.nilc (T 13)),so 15 (.faddr 0 (T 14)),so 16 (.load none (T 15)),so 17 (.call true ZaS [(T 16),(C 16)]),sm 12 17,so 18 (.ext (T 12) 0),so 19 (.ext (T 12) 1),sm 3 18,sm 4 19])
 (.seq (.seq (.reg [sm 20 4,so 21 (.un .not (T 20))])
 (.cond (T 21)
 (.seq (.reg [so 2 (.mv (C 2))])
 .ret)
 .skip))
 (.seq (.reg [sm 23 0,so 24 (.nilc (T 23)),so 25 (.faddr 0 (T 24)),so 26 (.load none (T 25)),so 27 (.call true ZaS [(T 26),(C 16)]),sm 22 27,so 28 (.ext (T 22) 0),so 29 (.ext (T 22) 1),sm 5 28,sm 4 29])
 (.seq (.seq (.reg [sm 30 4,so 31 (.un .not (T 30))])
 (.cond (T 31)
 (.seq (.reg [so 2 (.mv (C 2))])
 .ret)
 .skip))
 (.seq (.seq (.reg [sm 32 3,sm 33 5,so 34 (.bin .add (T 32) (T 33)),so 35 (.bin .neq (T 34) (C 65535))])
 (.cond (T 35)
 (.seq (.reg [so 2 (.mv (C 3))])
 .ret)
 .skip))
 (.seq (.reg [sm 37 0,so 38 (.nilc (T 37)),so 39 (.faddr 0 (T 38)),so 40 (.load none (T 39)),sm 41 3,so 42 (.call true Zdi [(T 40),(T 41)]),sm 36 42,so 43 (.ext (T 36) 0),so 44 (.ext (T 36) 1),sm 6 43,sm 4 44])
 (.seq (.seq (.reg [sm 45 4,so 46 (.un .not (T 45))])
 (.cond (T 46)
 (.seq (.reg [so 2 (.mv (C 2))])
 .ret)
 .skip))
 (.seq (.seq (.reg [sm 47 3,sm 48 0,so 49 (.call true Zbh [(T 48)]),so 50 (.bin .gtr (T 47) (T 49))])
 (.cond (T 50)
 (.seq (.reg [so 2 (.mv (C 4))])
 .ret)
 .skip))
 (.seq (.reg [sm 51 0,sm 52 0,so 53 (.nilc (T 52)),so 54 (.faddr 1 (T 53)),so 55 (.load none (T 54)),sm 56 6,so 57 (.app none 1 (T 55) (T 56)),so 58 (.nilc (T 51)),so 59 (.faddr 1 (T 58)),sn (.store none (T 59) (T 57))])
 (.seq (.reg [so 2 (.mv (C 0))])
 .ret))))))))))))
theorem ZgC:Zam Tryz.prog 60 (Tryz.f44.body.getD .skip)=Zc6:=by kernel_rfl
theorem ZgD:Zaf Tryz.prog Tryz.f44=some [.tmp 2]:=by kernel_rfl
def ZeZ:SCode :=
 (.seq (.reg [so 0 (.mv (.const (.pointer none)))])
 (.seq (.reg [so 6 (.bsl none [(C 8)]),so 7 (.call true ZaK [(T 6),(C 144)]),so 8 (.bsl none [(C 9)]),so 9 (.call true ZaK [(T 8),(C 112)]),so 10 (.bsl none [(C 7)]),so 11 (.call true ZaK [(T 10),(C 24)]),so 12 (.bsl none [(C 8)]),so 13 (.call true ZaK [(T 12),(C 8)]),so 14 (.bslice none [(T 7),(T 9),(T 11),(T 13)]),so 15 (.call true Zet [(T 14)]),so 16 (.call true ZbB [(T 15)]),sm 5 16,so 17 (.ext (T 5) 0),so 18 (.ext (T 5) 1),sm 1 17,sm 2 18])
 (.seq (.reg [so 20 (.bsl none [(C 5)]),so 21 (.call true ZaK [(T 20),(C 32)]),so 22 (.call true ZbB [(T 21)]),sm 19 22,so 23 (.ext (T 19) 0),so 24 (.ext (T 19) 1),sm 3 23,sm 4 24])
 (.seq (.reg [sm 25 1,sm 26 3,so 27 (.build [(.pointer none),(.pointer none)] [(0,1,(T 25)),(1,1,(T 26))]),so 28 (.box (T 27)),sm 0 28])
 .ret))))
theorem ZiM:Zam Tryz.prog 29 (Tryz.f45.body.getD .skip)=ZeZ:=by kernel_rfl
theorem ZiN:Zaf Tryz.prog Tryz.f45=some [.tmp 0]:=by kernel_rfl
def ZcL:SCode :=
 (.seq (.reg [so 4 (.mv (C 0))])
 (.block 0
 (.loop
 (.block 1
 (.seq (.reg [sm 8 1,so 9 (.nilc (T 8)),so 10 (.faddr 0 (T 9)),so 11 (.load none (T 10)),sm 12 0,so 13 (.nilc (T 12)),so 14 (.faddr 0 (T 13)),so 15 (.load none (T 14)),so 16 (.call true Zdb [(T 11),(T 15)]),sm 7 16,so 17 (.ext (T 7) 0),so 18 (.ext (T 7) 1),sm 5 17,sm 6 18])
 (.seq (.block 2
 (.seq (.reg [sm 29 6,so 30 (.bin .neq (T 29) (C 0)),sm 28 30])
 (.cond (T 28)
 (.seq (.reg [sm 31 6,sm 4 31])
 .ret)
 (.seq (.reg [sm 33 5,so 34 (.bin .lss (T 33) (C 256)),sm 32 34])
 (.cond (T 32)
 (.reg [sm 35 0,sm 36 5,so 37 (.ci .u8 (T 36)),so 38 (.call true Zbt [(T 35),(T 37)]),sm 6 38])
 (.seq (.reg [sm 40 5,so 41 (.bin .eql (T 40) (C 256)),sm 39 41])
 (.cond (T 39)
 (.seq (.reg [so 4 (.mv (C 0))])
 .ret)
 (.reg [sm 19 0,sm 20 5,so 21 (.bin .sub (T 20) (C 256)),so 22 (.bin .sub (T 21) (C 1)),sm 23 1,so 24 (.nilc (T 23)),so 25 (.faddr 1 (T 24)),so 26 (.load none (T 25)),so 27 (.call true Zd7 [(T 19),(T 22),(T 26)]),sm 6 27]))))))))
 (.seq (.reg [sm 42 6,so 43 (.bin .neq (T 42) (C 0))])
 (.cond (T 43)
 (.seq (.reg [sm 44 6,sm 4 44])
 .ret)
 .skip))))))))
theorem Zf7:Zam Tryz.prog 45 (Tryz.f46.body.getD .skip)=ZcL:=by kernel_rfl
theorem Zf8:Zaf Tryz.prog Tryz.f46=some [.tmp 4]:=by kernel_rfl
def Zcd:SCode :=
 (.seq (.reg [so 2 (.mv (.const (.pointer none))),so 3 (.mv (C 0))])
 (.seq (.reg [sm 12 0,so 13 (.nilc (T 12)),so 14 (.faddr 0 (T 13)),so 15 (.load none (T 14)),so 16 (.call true ZaS [(T 15),(C 14)]),sm 11 16,so 17 (.ext (T 11) 0),so 18 (.ext (T 11) 1),sm 4 17,sm 5 18])
 (.seq (.seq (.reg [sm 19 5,so 20 (.un .not (T 19))])
 (.cond (T 20)
 (.seq (.reg [so 2 (.mv (.const (.pointer none))),so 3 (.mv (C 2))])
 .ret)
 .skip))
 (.seq (.reg [sm 21 4,so 22 (.bin .and (T 21) (C 31)),so 23 (.bin .add (T 22) (C 257)),sm 24 4,so 25 (.bin .shr (T 24) (.const (.int .u64 (5)))),so 26 (.bin .and (T 25) (C 31)),so 27 (.bin .add (T 26) (C 1)),sm 6 23,sm 7 27])
 (.seq (.seq (.reg [sm 28 6,so 29 (.bin .gtr (T 28) (C 286)),sm 30 29,sg 31 (.mv (T 7)) 30 false,sg 32 (.bin .gtr (T 31) (C 30)) 30 false,so 33 (.pick (T 30) (.const (.bool true)) (T 32))])
 (.cond (T 33)
 (.seq (.reg [so 2 (.mv (.const (.pointer none))),so 3 (.mv (C 3))])
 .ret)
 .skip))
 (.seq (.reg [sm 35 0,sm 36 4,so 37 (.bin .shr (T 36) (.const (.int .u64 (10)))),so 38 (.bin .add (T 37) (C 4)),so 39 (.call true Zc4 [(T 35),(T 38)]),sm 34 39,so 40 (.ext (T 34) 0),so 41 (.ext (T 34) 1),sm 8 40,sm 9 41])
 (.seq (.seq (.reg [sm 42 9,so 43 (.bin .neq (T 42) (C 0))])
 (.cond (T 43)
 (.seq (.reg [sm 44 9,so 2 (.mv (.const (.pointer none))),sm 3 44])
 .ret)
 .skip))
 (.seq (.reg [sm 46 0,sm 47 8,sm 48 6,sm 49 7,so 50 (.bin .add (T 48) (T 49)),so 51 (.call true ZcJ [(T 46),(T 47),(T 50)]),sm 45 51,so 52 (.ext (T 45) 0),so 53 (.ext (T 45) 1),sm 10 52,sm 9 53])
 (.seq (.seq (.reg [sm 54 9,so 55 (.bin .neq (T 54) (C 0))])
 (.cond (T 55)
 (.seq (.reg [sm 56 9,so 2 (.mv (.const (.pointer none))),sm 3 56])
 .ret)
 .skip))
 (.seq (.reg [sm 57 10,sm 58 6,so 59 (.sl none (T 57) none (some (T 58))),sm 60 10,sm 61 6,so 62 (.sl none (T 60) (some (T 61)) none),so 63 (.call true ZgU [(T 59),(T 62)]),so 64 (.ext (T 63) 0),so 65 (.ext (T 63) 1),sm 2 64,sm 3 65])
 .ret))))))))))
theorem Ze9:Zam Tryz.prog 66 (Tryz.f47.body.getD .skip)=Zcd:=by kernel_rfl
theorem Zfa:Zaf Tryz.prog Tryz.f47=some [.tmp 2,.tmp 3]:=by kernel_rfl
def Zey:SCode :=
 (.seq (.reg [so 2 (.mv (C 0))])
 (.seq (.reg [so 3 (.mv (C 0))])
 (.seq (.seq (.reg [sm 5 0,so 6 (.len false (T 5)),so 7 (.bin .sub (T 6) (C 1)),sm 4 7])
 (.block 0
 (.loop
 (.seq (.seq (.reg [sm 8 4,so 9 (.bin .geq (T 8) (C 0))])
 (.cond (T 9)
 .skip
 (.exit 0)))
 (.seq (.block 1
 (.reg [sm 12 3,so 13 (.bin .mul (C 2) (T 12)),sm 14 0,sm 15 4,so 16 (.iaddr none (T 14) (T 15)),so 17 (.load none (T 16)),so 18 (.bin .add (T 13) (T 17)),sm 3 18]))
 (.reg [sm 10 4,so 11 (.bin .sub (T 10) (C 1)),sm 4 11]))))))
 (.seq (.reg [sm 19 3,sm 2 19])
 .ret))))
theorem Zia:Zam Tryz.prog 20 (Tryz.f48.body.getD .skip)=Zey:=by kernel_rfl
theorem Zib:Zaf Tryz.prog Tryz.f48=some [.tmp 2]:=by kernel_rfl
def Zdv:SCode :=
 (.seq (.reg [sm 6 1,sm 7 6,sg 8 (.mv (T 0)) 7 true,sg 9 (.nilc (T 8)) 7 true,sg 10 (.faddr 4 (T 9)) 7 true,sg 11 (.load none (T 10)) 7 true,sg 12 (.bin .eql (T 11) (C 0)) 7 true,so 13 (.pick (T 7) (T 12) (.const (.bool false)))])
 (.cond (T 13)
 (.reg [sm 14 0,sm 15 2,so 16 (.nilc (T 14)),so 17 (.faddr 4 (T 16)),sn (.store none (T 17) (T 15))])
 .skip))
theorem ZgY:Zam Tryz.prog 18 (Tryz.f49.body.getD .skip)=Zdv:=by kernel_rfl
theorem ZgZ:Zaf Tryz.prog Tryz.f49=some []:=by kernel_rfl
def Zcr:SCode :=
 (.seq (.reg [so 3 (.box (T 1)),so 4 (.mv (C 0))])
 (.seq (.seq (.reg [sm 7 0,so 8 (.nilc (T 7)),so 9 (.faddr 4 (T 8)),so 10 (.load none (T 9)),so 11 (.bin .neq (T 10) (C 0))])
 (.cond (T 11)
 (.seq (.reg [so 4 (.mv (C 0))])
 .ret)
 .skip))
 (.seq (.reg [sm 12 0,so 13 (.nilc (T 12)),so 14 (.faddr 1 (T 13)),so 15 (.load none (T 14)),so 16 (.bin .add (T 15) (C 15)),sm 5 16])
 (.seq (.seq (.reg [sm 17 5,sm 18 0,so 19 (.nilc (T 18)),so 20 (.faddr 0 (T 19)),so 21 (.load none (T 20)),so 22 (.len false (T 21)),so 23 (.bin .gtr (T 17) (T 22))])
 (.cond (T 23)
 (.reg [sm 24 0,so 25 (.nilc (T 24)),so 26 (.faddr 0 (T 25)),so 27 (.load none (T 26)),so 28 (.len false (T 27)),sm 5 28])
 .skip))
 (.seq (.reg [so 29 (.faddr 0 (T 3)),so 30 (.load none (T 29)),so 31 (.faddr 1 (T 3)),so 32 (.load none (T 31)),sm 33 0,so 34 (.nilc (T 33)),so 35 (.faddr 0 (T 34)),so 36 (.load none (T 35)),sm 37 0,so 38 (.nilc (T 37)),so 39 (.faddr 1 (T 38)),so 40 (.load none (T 39)),sm 41 5,so 42 (.sl none (T 36) (some (T 40)) (some (T 41))),so 43 (.call true Zfv [(T 30),(T 32),(T 42)]),so 6 (.alloc [(.int .i64 (0)),(.slice none 0 0),(.int .i64 (0))]),sn (.store (some 3) (T 6) (T 43))])
 (.seq (.seq (.reg [so 44 (.faddr 2 (T 6)),so 45 (.load none (T 44)),so 46 (.bin .neq (T 45) (C 0))])
 (.cond (T 46)
 (.seq (.reg [sm 47 0,so 48 (.faddr 2 (T 6)),so 49 (.load none (T 48)),so 50 (.nilc (T 47)),so 51 (.faddr 4 (T 50)),sn (.store none (T 51) (T 49))])
 (.seq (.reg [so 4 (.mv (C 0))])
 .ret))
 .skip))
 (.seq (.reg [sm 52 0,sm 53 0,so 54 (.nilc (T 53)),so 55 (.faddr 1 (T 54)),so 56 (.load none (T 55)),so 57 (.faddr 0 (T 3)),so 58 (.load none (T 57)),so 59 (.faddr 0 (T 6)),so 60 (.load none (T 59)),so 61 (.iaddr none (T 58) (T 60)),so 62 (.load none (T 61)),so 63 (.bin .add (T 56) (T 62)),so 64 (.nilc (T 52)),so 65 (.faddr 1 (T 64)),sn (.store none (T 65) (T 63))])
 (.seq (.reg [so 66 (.faddr 0 (T 6)),so 67 (.load none (T 66)),sm 4 67])
 .ret))))))))
theorem ZfI:Zam Tryz.prog 68 (Tryz.f50.body.getD .skip)=Zcr:=by kernel_rfl
theorem ZfJ:Zaf Tryz.prog Tryz.f50=some [.tmp 4]:=by kernel_rfl
def Zcs:SCode :=
 (.seq (.reg [so 4 (.mv (C 0))])
 (.seq (.reg [sm 7 1,so 8 (.bin .sub (T 7) (C 257)),sm 5 8])
 (.seq (.seq (.reg [sm 9 5,so 10 (.bin .lss (T 9) (C 8))])
 (.cond (T 10)
 (.seq (.reg [sm 11 5,so 12 (.bin .add (C 3) (T 11)),sm 4 12])
 .ret)
 .skip))
 (.seq (.seq (.reg [sm 13 5,so 14 (.bin .eql (T 13) (C 28))])
 (.cond (T 14)
 (.seq (.reg [so 4 (.mv (C 258))])
 .ret)
 .skip))
 (.seq (.reg [sm 15 5,so 16 (.bin .quo (T 15) (C 4)),so 17 (.bin .sub (T 16) (C 1)),sm 6 17])
 (.seq (.reg [sm 18 5,so 19 (.bin .rem (T 18) (C 4)),so 20 (.bin .add (C 4) (T 19)),sm 21 6,so 22 (.call true ZcW [(T 21)]),so 23 (.bin .mul (T 20) (T 22)),so 24 (.bin .add (C 3) (T 23)),sm 25 0,sm 26 6,so 27 (.call true Zah [(T 25),(T 26)]),so 28 (.bin .add (T 24) (T 27)),sm 4 28])
 .ret))))))
theorem ZfK:Zam Tryz.prog 29 (Tryz.f51.body.getD .skip)=Zcs:=by kernel_rfl
theorem ZfL:Zaf Tryz.prog Tryz.f51=some [.tmp 4]:=by kernel_rfl
def ZbY:SCode :=
 (.seq (.reg [so 4 (.mv (C 0))])
 (.seq (.seq (.reg [sm 6 1,so 7 (.bin .lss (T 6) (C 4))])
 (.cond (T 7)
 (.seq (.reg [sm 8 1,so 9 (.bin .add (C 1) (T 8)),sm 4 9])
 .ret)
 .skip))
 (.seq (.reg [sm 10 1,so 11 (.bin .quo (T 10) (C 2)),so 12 (.bin .sub (T 11) (C 1)),sm 5 12])
 (.seq (.reg [sm 13 1,so 14 (.bin .rem (T 13) (C 2)),so 15 (.bin .add (C 2) (T 14)),sm 16 5,so 17 (.call true ZcW [(T 16)]),so 18 (.bin .mul (T 15) (T 17)),so 19 (.bin .add (C 1) (T 18)),sm 20 0,sm 21 5,so 22 (.call true Zah [(T 20),(T 21)]),so 23 (.bin .add (T 19) (T 22)),sm 4 23])
 .ret))))
theorem ZeM:Zam Tryz.prog 24 (Tryz.f52.body.getD .skip)=ZbY:=by kernel_rfl
theorem ZeN:Zaf Tryz.prog Tryz.f52=some [.tmp 4]:=by kernel_rfl
def Ze0:SCode :=
 (.seq (.reg [so 2 (.mv (.const (.slice none 0 0))),so 3 (.mv (C 0))])
 (.seq (.seq (.reg [sm 9 0,so 10 (.call true ZcT [(T 9)]),sm 4 10])
 (.seq (.reg [sm 11 4,so 12 (.bin .neq (T 11) (C 0))])
 (.cond (T 12)
 (.seq (.reg [sm 13 4,so 2 (.mv (.const (.slice none 0 0))),sm 3 13])
 .ret)
 .skip)))
 (.seq (.reg [so 5 (.mv (.const (.slice none 0 0)))])
 (.seq (.reg [sm 14 5,sm 15 0,so 16 (.app none 8 (T 14) (T 15)),sm 5 16])
 (.seq (.reg [so 6 (.mv (C 0))])
 (.seq (.seq (.reg [so 7 (.mv (C 0))])
 (.block 0
 (.loop
 (.seq (.seq (.reg [sm 17 7,so 18 (.bin .leq (T 17) (C 15))])
 (.cond (T 18)
 .skip
 (.exit 0)))
 (.seq (.block 1
 (.seq (.seq (.reg [so 8 (.mv (C 0))])
 (.block 2
 (.loop
 (.seq (.seq (.reg [sm 21 8,sm 22 0,so 23 (.len false (T 22)),so 24 (.bin .lss (T 21) (T 23))])
 (.cond (T 24)
 .skip
 (.exit 2)))
 (.seq (.block 3
 (.seq (.seq (.reg [sm 27 0,sm 28 8,so 29 (.iaddr none (T 27) (T 28)),so 30 (.load none (T 29)),sm 31 7,so 32 (.bin .neq (T 30) (T 31))])
 (.cond (T 32)
 (.exit 3)
 .skip))
 (.seq (.reg [sm 33 5,sm 34 8,sm 35 6,so 36 (.iaddr none (T 33) (T 34)),sn (.store none (T 36) (T 35))])
 (.seq (.reg [sm 37 7,so 38 (.bin .gtr (T 37) (C 0))])
 (.cond (T 38)
 (.reg [sm 39 6,so 40 (.bin .add (T 39) (C 1)),sm 6 40])
 (.reg [sm 41 5,sm 42 8,so 43 (.iaddr none (T 41) (T 42)),sn (.store none (T 43) (C 0))]))))))
 (.reg [sm 25 8,so 26 (.bin .add (T 25) (C 1)),sm 8 26]))))))
 (.reg [sm 44 6,so 45 (.bin .mul (C 2) (T 44)),sm 6 45])))
 (.reg [sm 19 7,so 20 (.bin .add (T 19) (C 1)),sm 7 20]))))))
 (.seq (.reg [sm 46 5,sm 2 46,so 3 (.mv (C 0))])
 .ret)))))))
theorem ZiO:Zam Tryz.prog 47 (Tryz.f53.body.getD .skip)=Ze0:=by kernel_rfl
theorem ZiP:Zaf Tryz.prog Tryz.f53=some [.tmp 2,.tmp 3]:=by kernel_rfl
def ZfM:SCode :=
 (.seq (.reg [so 2 (.mv (.const (.bool false)))])
 (.seq (.reg [sm 3 0,so 4 (.call true ZcT [(T 3)]),so 5 (.bin .eql (T 4) (C 0)),sm 6 5,sg 7 (.mv (T 0)) 6 true,sg 8 (.call true ZcV [(T 7)]) 6 true,sg 9 (.bin .eql (T 8) (C 32768)) 6 true,so 10 (.pick (T 6) (T 9) (.const (.bool false))),sm 2 10])
 .ret))
theorem Zjk:Zam Tryz.prog 11 (Tryz.f54.body.getD .skip)=ZfM:=by kernel_rfl
theorem Zjl:Zaf Tryz.prog Tryz.f54=some [.tmp 2]:=by kernel_rfl
def Zgs:SCode :=
 (.seq (.reg [so 2 (.mv (C 0))])
 (.seq (.reg [sm 3 0,so 4 (.nilc (T 3)),so 5 (.faddr 0 (T 4)),so 6 (.load none (T 5)),so 7 (.len false (T 6)),so 8 (.bin .mul (T 7) (C 8)),sm 9 0,so 10 (.nilc (T 9)),so 11 (.faddr 1 (T 10)),so 12 (.load none (T 11)),so 13 (.bin .sub (T 8) (T 12)),sm 2 13])
 .ret))
theorem Zj8:Zam Tryz.prog 14 (Tryz.f84.body.getD .skip)=Zgs:=by kernel_rfl
theorem Zj9:Zaf Tryz.prog Tryz.f84=some [.tmp 2]:=by kernel_rfl
def Zg0:SCode :=
 (.seq (.reg [so 2 (.mv (C 0))])
 (.seq (.reg [sm 4 0,so 5 (.nilc (T 4)),so 6 (.faddr 0 (T 5)),so 7 (.load none (T 6)),sm 8 0,so 9 (.nilc (T 8)),so 10 (.faddr 1 (T 9)),so 11 (.load none (T 10)),so 12 (.bin .quo (T 11) (C 8)),so 13 (.iaddr none (T 7) (T 12)),so 14 (.load none (T 13)),so 15 (.ci .i64 (T 14)),sm 16 0,so 17 (.nilc (T 16)),so 18 (.faddr 1 (T 17)),so 19 (.load none (T 18)),so 20 (.bin .rem (T 19) (C 8)),so 21 (.bin .shr (T 15) (T 20)),so 22 (.bin .and (T 21) (C 1)),sm 3 22])
 (.seq (.reg [sm 23 0,so 24 (.nilc (T 23)),so 25 (.faddr 1 (T 24)),so 26 (.load none (T 25)),so 27 (.bin .add (T 26) (C 1)),so 28 (.nilc (T 23)),so 29 (.faddr 1 (T 28)),sn (.store none (T 29) (T 27))])
 (.seq (.reg [sm 30 3,sm 2 30])
 .ret))))
theorem ZkO:Zam Tryz.prog 31 (Tryz.f85.body.getD .skip)=Zg0:=by kernel_rfl
theorem ZkP:Zaf Tryz.prog Tryz.f85=some [.tmp 2]:=by kernel_rfl
def ZfN:SCode :=
 (.reg [sm 2 0,sm 3 0,so 4 (.nilc (T 3)),so 5 (.faddr 1 (T 4)),so 6 (.load none (T 5)),so 7 (.bin .add (T 6) (C 8)),so 8 (.bin .sub (T 7) (C 1)),so 9 (.bin .quo (T 8) (C 8)),so 10 (.bin .mul (T 9) (C 8)),so 11 (.nilc (T 2)),so 12 (.faddr 1 (T 11)),sn (.store none (T 12) (T 10))])
theorem Zjm:Zam Tryz.prog 13 (Tryz.f86.body.getD .skip)=ZfN:=by kernel_rfl
theorem Zjn:Zaf Tryz.prog Tryz.f86=some []:=by kernel_rfl
def Zdm:SCode :=
 (.seq (.reg [so 4 (.mv (.const (.slice none 0 0))),so 5 (.mv (.const (.bool false)))])
 (.seq (.reg [sm 7 0,so 8 (.call true Zdh [(T 7)])])
 (.seq (.seq (.reg [sm 9 1,so 10 (.bin .lss (T 9) (C 0)),sm 11 10,sg 12 (.mv (T 1)) 11 false,sg 13 (.mv (T 0)) 11 false,sg 14 (.call true Zb7 [(T 13)]) 11 false,sg 15 (.bin .quo (T 14) (C 8)) 11 false,sg 16 (.bin .gtr (T 12) (T 15)) 11 false,so 17 (.pick (T 11) (.const (.bool true)) (T 16))])
 (.cond (T 17)
 (.seq (.reg [so 4 (.mv (.const (.slice none 0 0))),so 5 (.mv (.const (.bool false)))])
 .ret)
 .skip))
 (.seq (.reg [sm 18 0,so 19 (.nilc (T 18)),so 20 (.faddr 1 (T 19)),so 21 (.load none (T 20)),so 22 (.bin .quo (T 21) (C 8)),sm 6 22])
 (.seq (.reg [sm 23 0,so 24 (.nilc (T 23)),so 25 (.faddr 1 (T 24)),so 26 (.load none (T 25)),sm 27 1,so 28 (.bin .mul (T 27) (C 8)),so 29 (.bin .add (T 26) (T 28)),so 30 (.nilc (T 23)),so 31 (.faddr 1 (T 30)),sn (.store none (T 31) (T 29))])
 (.seq (.reg [sm 32 0,so 33 (.nilc (T 32)),so 34 (.faddr 0 (T 33)),so 35 (.load none (T 34)),sm 36 6,sm 37 6,sm 38 1,so 39 (.bin .add (T 37) (T 38)),so 40 (.sl none (T 35) (some (T 36)) (some (T 39))),so 41 (.call true ZdD [(T 40)]),sm 4 41,so 5 (.mv (.const (.bool true)))])
 .ret))))))
theorem ZfO:Zam Tryz.prog 42 (Tryz.f87.body.getD .skip)=Zdm:=by kernel_rfl
theorem ZfP:Zaf Tryz.prog Tryz.f87=some [.tmp 4,.tmp 5]:=by kernel_rfl
def ZdX:SCode :=
 (.seq (.reg [so 2 (.mv (C 0))])
 (.seq (.reg [sm 3 0,so 4 (.nilc (T 3)),so 5 (.faddr 2 (T 4)),so 6 (.load none (T 5)),sm 7 0,so 8 (.nilc (T 7)),so 9 (.faddr 1 (T 8)),so 10 (.load none (T 9)),so 11 (.len false (T 10)),so 12 (.bin .sub (T 6) (T 11)),sm 2 12])
 .ret))
theorem Zht:Zam Tryz.prog 13 (Tryz.f88.body.getD .skip)=ZdX:=by kernel_rfl
theorem Zhu:Zaf Tryz.prog Tryz.f88=some [.tmp 2]:=by kernel_rfl
def Zi5:SCode :=
 (.seq (.reg [so 2 (.mv (.const (.pointer none))),so 3 (.mv (C 0))])
 (.seq (.seq (.reg [sm 8 0,so 9 (.call true Zh7 [(T 8)]),sm 4 9])
 (.seq (.reg [sm 10 4,so 11 (.bin .neq (T 10) (C 0))])
 (.cond (T 11)
 (.seq (.reg [sm 12 4,so 2 (.mv (.const (.pointer none))),sm 3 12])
 .ret)
 .skip)))
 (.seq (.reg [sm 13 0,so 14 (.call true ZhJ [(T 13)]),sm 15 0,so 16 (.call true Zgj [(T 15)]),so 17 (.build [(.int .i64 (0)),(.int .i64 (0)),(.int .i64 (0)),(.int .i64 (0)),(.int .i64 (0)),(.int .i64 (0)),(.int .i64 (0)),(.int .i64 (0)),(.int .i64 (0)),(.int .i64 (0)),(.int .i64 (0)),(.int .i64 (0)),(.int .i64 (0)),(.int .i64 (0)),(.int .i64 (0)),(.int .i64 (0)),(.slice none 0 0),(.slice none 0 0),(.slice none 0 0),(.slice none 0 0),(.slice none 0 0),(.slice none 0 0),(.slice none 0 0),(.slice none 0 0),(.slice none 0 0),(.slice none 0 0),(.slice none 0 0),(.slice none 0 0),(.slice none 0 0),(.slice none 0 0),(.slice none 0 0),(.slice none 0 0),(.int .i64 (0))] [(0,16,(T 14)),(32,1,(T 16))]),so 18 (.box (T 17)),sm 5 18])
 (.seq (.seq (.reg [sm 19 0,so 20 (.len false (T 19)),so 21 (.mv (C 0))])
 (.block 0
 (.loop
 (.seq (.reg [so 22 (.bin .lss (T 21) (T 20))])
 (.seq (.cond (T 22)
 .skip
 (.exit 0))
 (.seq (.block 1
 (.seq (.reg [sm 23 21,so 24 (.iaddr none (T 19) (T 21)),so 25 (.load none (T 24)),sm 6 23,sm 7 25])
 (.seq (.reg [sm 26 7,so 27 (.bin .gtr (T 26) (C 0))])
 (.cond (T 27)
 (.reg [sm 28 5,sm 29 7,sm 30 5,sm 31 7,so 32 (.nilc (T 30)),so 33 (.faddr 16 (T 32)),so 34 (.iaddrA 16 none (T 33) (T 31)),so 35 (.load none (T 34)),sm 36 6,so 37 (.bslice none [(T 36)]),so 38 (.app none 8 (T 35) (T 37)),so 39 (.nilc (T 28)),so 40 (.faddr 16 (T 39)),so 41 (.iaddrA 16 none (T 40) (T 29)),sn (.store none (T 41) (T 38))])
 .skip))))
 (.reg [so 42 (.bin .add (T 21) (C 1)),sm 21 42])))))))
 (.seq (.reg [sm 43 5,sm 2 43,so 3 (.mv (C 0))])
 .ret)))))
theorem ZmY:Zam Tryz.prog 44 (Tryz.f89.body.getD .skip)=Zi5:=by kernel_rfl
theorem ZmZ:Zaf Tryz.prog Tryz.f89=some [.tmp 2,.tmp 3]:=by kernel_rfl
def Zez:SCode :=
 (.seq (.reg [so 2 (.mv (.const (.slice none 0 0)))])
 (.seq (.reg [so 3 (.mv (C 0))])
 (.seq (.seq (.reg [sm 9 0,so 10 (.len false (T 9)),so 11 (.mv (C 0))])
 (.block 0
 (.loop
 (.seq (.reg [so 12 (.bin .lss (T 11) (T 10))])
 (.seq (.cond (T 12)
 .skip
 (.exit 0))
 (.seq (.block 1
 (.seq (.reg [so 13 (.iaddr none (T 9) (T 11)),so 14 (.load none (T 13)),sm 5 14])
 (.seq (.reg [sm 15 3,sm 16 5,so 17 (.len false (T 16)),so 18 (.bin .add (T 15) (T 17)),sm 3 18])
 (.seq (.reg [sm 19 3,so 20 (.bin .lss (T 19) (C 0))])
 (.cond (T 20)
 (.reg [so 21 (.no),sn (.no)])
 .skip)))))
 (.reg [so 22 (.bin .add (T 11) (C 1)),sm 11 22])))))))
 (.seq (.reg [sm 23 3,so 24 (.call true Zfz [(.const (.slice none 0 0)),(T 23)]),sm 6 24])
 (.seq (.seq (.reg [sm 25 0,so 26 (.len false (T 25)),so 27 (.mv (C 0))])
 (.block 2
 (.loop
 (.seq (.reg [so 28 (.bin .lss (T 27) (T 26))])
 (.seq (.cond (T 28)
 .skip
 (.exit 2))
 (.seq (.block 3
 (.seq (.reg [so 29 (.iaddr none (T 25) (T 27)),so 30 (.load none (T 29)),sm 8 30])
 (.reg [sm 31 6,sm 32 8,so 33 (.app none 8 (T 31) (T 32)),sm 6 33])))
 (.reg [so 34 (.bin .add (T 27) (C 1)),sm 27 34])))))))
 (.seq (.reg [sm 35 6,sm 2 35])
 .ret))))))
theorem Zic:Zam Tryz.prog 36 (Tryz.f75.body.getD .skip)=Zez:=by kernel_rfl
theorem Zid:Zaf Tryz.prog Tryz.f75=some [.tmp 2]:=by kernel_rfl
def ZeA:SCode :=
 (.seq (.reg [so 4 (.mv (.const (.slice none 0 0)))])
 (.seq (.seq (.reg [sm 9 1,so 10 (.bin .lss (T 9) (C 0))])
 (.cond (T 10)
 (.reg [so 11 (.no),sn (.no)])
 .skip))
 (.seq (.reg [sm 13 0,so 14 (.len false (T 13)),so 15 (.ci .u64 (T 14)),sm 16 1,so 17 (.ci .u64 (T 16)),so 18 (.call true Znz [(T 15),(T 17)]),sm 12 18,so 19 (.ext (T 12) 0),so 20 (.ext (T 12) 1),sm 5 19,sm 6 20])
 (.seq (.seq (.reg [sm 21 5,so 22 (.bin .gtr (T 21) (.const (.int .u64 (0)))),sm 23 22,sg 24 (.mv (T 6)) 23 false,sg 25 (.bin .gtr (T 24) (.const (.int .u64 (9223372036854775807)))) 23 false,so 26 (.pick (T 23) (.const (.bool true)) (T 25))])
 (.cond (T 26)
 (.reg [so 27 (.no),sn (.no)])
 .skip))
 (.seq (.reg [sm 28 6,so 29 (.ci .i64 (T 28)),so 30 (.mks none 8 [(.int .i64 (0))] (T 29) (T 29)),sm 7 30])
 (.seq (.reg [sm 31 7,sm 32 0,so 33 (.copy (T 31) (T 32)),sm 8 33])
 (.seq (.block 0
 (.loop
 (.seq (.seq (.reg [sm 34 8,sm 35 7,so 36 (.len false (T 35)),so 37 (.bin .lss (T 34) (T 36))])
 (.cond (T 37)
 .skip
 (.exit 0)))
 (.block 1
 (.reg [sm 38 8,sm 39 7,sm 40 8,so 41 (.sl none (T 39) (some (T 40)) none),sm 42 7,sm 43 8,so 44 (.sl none (T 42) none (some (T 43))),so 45 (.copy (T 41) (T 44)),so 46 (.bin .add (T 38) (T 45)),sm 8 46])))))
 (.seq (.reg [sm 47 7,sm 4 47])
 .ret))))))))
theorem Zie:Zam Tryz.prog 48 (Tryz.f76.body.getD .skip)=ZeA:=by kernel_rfl
theorem Zif:Zaf Tryz.prog Tryz.f76=some [.tmp 4]:=by kernel_rfl
def ZhN:SCode :=
 (.seq (.reg [so 4 (.mv (C 0)),so 5 (.mv (C 0))])
 (.seq (.reg [so 6 (.mv (C 0))])
 (.seq (.seq (.reg [so 10 (.mv (C 0))])
 (.block 0
 (.loop
 (.seq (.reg [so 11 (.bin .lss (T 10) (C 15))])
 (.seq (.cond (T 11)
 .skip
 (.exit 0))
 (.seq (.block 1
 (.seq (.reg [sm 12 10,sm 7 12])
 (.seq (.seq (.reg [sm 13 1,so 14 (.call true Zb7 [(T 13)]),so 15 (.bin .eql (T 14) (C 0))])
 (.cond (T 15)
 (.seq (.reg [so 4 (.mv (C 0)),so 5 (.mv (C 2))])
 .ret)
 .skip))
 (.seq (.reg [sm 16 6,so 17 (.bin .shl (T 16) (.const (.int .u64 (1)))),sm 18 1,so 19 (.call true Zei [(T 18)]),so 20 (.bin .or (T 17) (T 19)),sm 6 20])
 (.seq (.reg [sm 21 7,so 22 (.bin .add (T 21) (C 1)),sm 8 22])
 (.seq (.seq (.reg [sm 23 0,sm 24 6,sm 25 8,so 26 (.call true Zgi [(T 23),(T 24),(T 25)]),so 27 (.un .not (T 26))])
 (.cond (T 27)
 (.exit 0)
 .skip))
 (.seq (.reg [sm 28 6,sm 29 0,sm 30 8,so 31 (.nilc (T 29)),so 32 (.faddr 0 (T 31)),so 33 (.iaddrA 16 none (T 32) (T 30)),so 34 (.load none (T 33)),so 35 (.bin .sub (T 28) (T 34)),sm 9 35])
 (.seq (.reg [sm 36 9,sm 37 0,sm 38 8,so 39 (.nilc (T 37)),so 40 (.faddr 16 (T 39)),so 41 (.iaddrA 16 none (T 40) (T 38)),so 42 (.load none (T 41)),so 43 (.len false (T 42)),so 44 (.bin .lss (T 36) (T 43))])
 (.cond (T 44)
 (.seq (.reg [sm 45 0,sm 46 8,so 47 (.nilc (T 45)),so 48 (.faddr 16 (T 47)),so 49 (.iaddrA 16 none (T 48) (T 46)),so 50 (.load none (T 49)),sm 51 9,so 52 (.iaddr none (T 50) (T 51)),so 53 (.load none (T 52)),sm 4 53,so 5 (.mv (C 0))])
 .ret)
 .skip)))))))))
 (.reg [so 54 (.bin .add (T 10) (C 1)),sm 10 54])))))))
 (.seq (.reg [so 4 (.mv (C 0)),so 5 (.mv (C 3))])
 .ret))))
theorem ZlC:Zam Tryz.prog 55 (Tryz.f90.body.getD .skip)=ZhN:=by kernel_rfl
theorem ZlD:Zaf Tryz.prog Tryz.f90=some [.tmp 4,.tmp 5]:=by kernel_rfl
def Zbv:SCode :=
 (.seq (.reg [so 4 (.mv (C 0))])
 (.seq (.seq (.reg [sm 5 0,so 6 (.call true Zbh [(T 5)]),so 7 (.bin .lss (T 6) (C 1))])
 (.cond (T 7)
 (.seq (.reg [so 4 (.mv (C 4))])
 .ret)
 .skip))
 (.seq (.reg [sm 8 0,sm 9 0,so 10 (.nilc (T 9)),so 11 (.faddr 1 (T 10)),so 12 (.load none (T 11)),sm 13 1,so 14 (.bslice none [(T 13)]),so 15 (.app none 1 (T 12) (T 14)),so 16 (.nilc (T 8)),so 17 (.faddr 1 (T 16)),sn (.store none (T 17) (T 15))])
 (.seq (.reg [so 4 (.mv (C 0))])
 .ret))))
theorem ZcM:Zam Tryz.prog 18 (Tryz.f91.body.getD .skip)=Zbv:=by kernel_rfl
theorem ZcN:Zaf Tryz.prog Tryz.f91=some [.tmp 4]:=by kernel_rfl
def ZaE:SCode :=
 (.seq (.reg [so 6 (.mv (C 0))])
 (.seq (.reg [sm 11 0,sm 12 1,so 13 (.call true Zc2 [(T 11),(T 12)]),sm 10 13,so 14 (.ext (T 10) 0),so 15 (.ext (T 10) 1),sm 7 14,sm 8 15])
 (.seq (.seq (.reg [sm 16 8,so 17 (.bin .neq (T 16) (C 0))])
 (.cond (T 17)
 (.seq (.reg [sm 18 8,sm 6 18])
 .ret)
 .skip))
 (.seq (.reg [sm 20 2,sm 21 0,so 22 (.nilc (T 21)),so 23 (.faddr 0 (T 22)),so 24 (.load none (T 23)),so 25 (.call true Zdb [(T 20),(T 24)]),sm 19 25,so 26 (.ext (T 19) 0),so 27 (.ext (T 19) 1),sm 1 26,sm 8 27])
 (.seq (.seq (.reg [sm 28 8,so 29 (.bin .neq (T 28) (C 0))])
 (.cond (T 29)
 (.seq (.reg [sm 30 8,sm 6 30])
 .ret)
 .skip))
 (.seq (.reg [sm 32 0,sm 33 1,so 34 (.call true Zcn [(T 32),(T 33)]),sm 31 34,so 35 (.ext (T 31) 0),so 36 (.ext (T 31) 1),sm 9 35,sm 8 36])
 (.seq (.seq (.reg [sm 37 8,so 38 (.bin .neq (T 37) (C 0))])
 (.cond (T 38)
 (.seq (.reg [sm 39 8,sm 6 39])
 .ret)
 .skip))
 (.seq (.seq (.reg [sm 40 9,sm 41 0,so 42 (.nilc (T 41)),so 43 (.faddr 1 (T 42)),so 44 (.load none (T 43)),so 45 (.len false (T 44)),so 46 (.bin .gtr (T 40) (T 45))])
 (.cond (T 46)
 (.seq (.reg [so 6 (.mv (C 3))])
 .ret)
 .skip))
 (.seq (.seq (.reg [sm 47 7,sm 48 0,so 49 (.call true Zbh [(T 48)]),so 50 (.bin .gtr (T 47) (T 49))])
 (.cond (T 50)
 (.seq (.reg [so 6 (.mv (C 4))])
 .ret)
 .skip))
 (.seq (.seq (.reg [sm 51 7,so 52 (.mv (C 0))])
 (.block 0
 (.loop
 (.seq (.reg [so 53 (.bin .lss (T 52) (T 51))])
 (.seq (.cond (T 53)
 .skip
 (.exit 0))
 (.seq (.block 1
 (.reg [sm 54 0,sm 55 0,so 56 (.nilc (T 55)),so 57 (.faddr 1 (T 56)),so 58 (.load none (T 57)),sm 59 0,so 60 (.nilc (T 59)),so 61 (.faddr 1 (T 60)),so 62 (.load none (T 61)),sm 63 0,so 64 (.nilc (T 63)),so 65 (.faddr 1 (T 64)),so 66 (.load none (T 65)),so 67 (.len false (T 66)),sm 68 9,so 69 (.bin .sub (T 67) (T 68)),so 70 (.iaddr none (T 62) (T 69)),so 71 (.load none (T 70)),so 72 (.bslice none [(T 71)]),so 73 (.app none 1 (T 58) (T 72)),so 74 (.nilc (T 54)),so 75 (.faddr 1 (T 74)),sn (.store none (T 75) (T 73))]))
 (.reg [so 76 (.bin .add (T 52) (C 1)),sm 52 76])))))))
 (.seq (.reg [so 6 (.mv (C 0))])
 .ret)))))))))))
theorem ZaU:Zam Tryz.prog 77 (Tryz.f92.body.getD .skip)=ZaE:=by kernel_rfl
theorem ZaV:Zaf Tryz.prog Tryz.f92=some [.tmp 6]:=by kernel_rfl
def Zc7:SCode :=
 (.seq (.reg [so 4 (.mv (.const (.pointer none))),so 5 (.mv (C 0))])
 (.seq (.reg [so 10 (.mks none 8 [(.int .i64 (0))] (C 19) (C 19)),sm 6 10])
 (.seq (.seq (.reg [sm 11 1,so 12 (.mv (C 0))])
 (.block 0
 (.loop
 (.seq (.reg [so 13 (.bin .lss (T 12) (T 11))])
 (.seq (.cond (T 13)
 .skip
 (.exit 0))
 (.seq (.block 1
 (.seq (.reg [sm 14 12,sm 7 14])
 (.seq (.reg [sm 16 0,so 17 (.nilc (T 16)),so 18 (.faddr 0 (T 17)),so 19 (.load none (T 18)),so 20 (.call true ZaS [(T 19),(C 3)]),sm 15 20,so 21 (.ext (T 15) 0),so 22 (.ext (T 15) 1),sm 8 21,sm 9 22])
 (.seq (.seq (.reg [sm 23 9,so 24 (.un .not (T 23))])
 (.cond (T 24)
 (.seq (.reg [so 4 (.mv (.const (.pointer none))),so 5 (.mv (C 2))])
 .ret)
 .skip))
 (.reg [sm 25 6,sm 26 7,so 27 (.iaddrA 19 none (.global 1) (T 26)),so 28 (.load none (T 27)),sm 29 8,so 30 (.iaddr none (T 25) (T 28)),sn (.store none (T 30) (T 29))])))))
 (.reg [so 31 (.bin .add (T 12) (C 1)),sm 12 31])))))))
 (.seq (.seq (.reg [sm 32 6,so 33 (.call true Zfw [(T 32)]),so 34 (.un .not (T 33))])
 (.cond (T 34)
 (.seq (.reg [so 4 (.mv (.const (.pointer none))),so 5 (.mv (C 3))])
 .ret)
 .skip))
 (.seq (.reg [sm 35 6,so 36 (.call true ZbB [(T 35)]),so 37 (.ext (T 36) 0),so 38 (.ext (T 36) 1),sm 4 37,sm 5 38])
 .ret)))))
theorem ZgE:Zam Tryz.prog 39 (Tryz.f93.body.getD .skip)=Zc7:=by kernel_rfl
theorem ZgF:Zaf Tryz.prog Tryz.f93=some [.tmp 4,.tmp 5]:=by kernel_rfl
def ZcO:SCode :=
 (.seq (.reg [so 6 (.mv (.const (.slice none 0 0))),so 7 (.mv (C 0))])
 (.seq (.reg [so 8 (.mv (.const (.slice none 0 0)))])
 (.seq (.block 0
 (.loop
 (.seq (.seq (.reg [sm 14 8,so 15 (.len false (T 14)),sm 16 2,so 17 (.bin .lss (T 15) (T 16))])
 (.cond (T 17)
 .skip
 (.exit 0)))
 (.block 1
 (.seq (.reg [sm 19 1,sm 20 0,so 21 (.nilc (T 20)),so 22 (.faddr 0 (T 21)),so 23 (.load none (T 22)),so 24 (.call true Zdb [(T 19),(T 23)]),sm 18 24,so 25 (.ext (T 18) 0),so 26 (.ext (T 18) 1),sm 9 25,sm 10 26])
 (.seq (.seq (.reg [sm 27 10,so 28 (.bin .neq (T 27) (C 0))])
 (.cond (T 28)
 (.seq (.reg [sm 29 10,so 6 (.mv (.const (.slice none 0 0))),sm 7 29])
 .ret)
 .skip))
 (.seq (.reg [sm 30 9,sm 11 30,so 12 (.mv (C 1)),so 13 (.mv (C 0))])
 (.seq (.seq (.reg [sm 31 9])
 (.block 2
 (.seq (.reg [so 33 (.bin .eql (T 31) (C 16)),sm 32 33])
 (.cond (T 32)
 (.seq (.seq (.reg [sm 34 8,so 35 (.len false (T 34)),so 36 (.bin .eql (T 35) (C 0))])
 (.cond (T 36)
 (.seq (.reg [so 6 (.mv (.const (.slice none 0 0))),so 7 (.mv (C 3))])
 .ret)
 .skip))
 (.reg [sm 37 8,sm 38 8,so 39 (.len false (T 38)),so 40 (.bin .sub (T 39) (C 1)),so 41 (.iaddr none (T 37) (T 40)),so 42 (.load none (T 41)),sm 11 42,so 12 (.mv (C 3)),so 13 (.mv (C 2))]))
 (.seq (.reg [so 44 (.bin .eql (T 31) (C 17)),sm 43 44])
 (.cond (T 43)
 (.reg [so 11 (.mv (C 0)),so 12 (.mv (C 3)),so 13 (.mv (C 3))])
 (.seq (.reg [so 46 (.bin .eql (T 31) (C 18)),sm 45 46])
 (.cond (T 45)
 (.reg [so 11 (.mv (C 0)),so 12 (.mv (C 11)),so 13 (.mv (C 7))])
 .skip))))))))
 (.seq (.seq (.reg [sm 48 0,sm 49 12,sm 50 13,so 51 (.call true ZaO [(T 48),(T 49),(T 50)]),sm 47 51,so 52 (.ext (T 47) 0),so 53 (.ext (T 47) 1),sm 12 52,sm 10 53])
 (.seq (.reg [sm 54 10,so 55 (.bin .neq (T 54) (C 0))])
 (.cond (T 55)
 (.seq (.reg [sm 56 10,so 6 (.mv (.const (.slice none 0 0))),sm 7 56])
 .ret)
 .skip)))
 (.seq (.seq (.reg [sm 57 12,sm 58 2,sm 59 8,so 60 (.len false (T 59)),so 61 (.bin .sub (T 58) (T 60)),so 62 (.bin .gtr (T 57) (T 61))])
 (.cond (T 62)
 (.seq (.reg [so 6 (.mv (.const (.slice none 0 0))),so 7 (.mv (C 3))])
 .ret)
 .skip))
 (.reg [sm 63 8,sm 64 11,so 65 (.bsl none [(T 64)]),sm 66 12,so 67 (.call true ZaK [(T 65),(T 66)]),so 68 (.app none 8 (T 63) (T 67)),sm 8 68])))))))))))
 (.seq (.reg [sm 69 8,sm 6 69,so 7 (.mv (C 0))])
 .ret))))
theorem Zf9:Zam Tryz.prog 70 (Tryz.f94.body.getD .skip)=ZcO:=by kernel_rfl
theorem Zga:Zaf Tryz.prog Tryz.f94=some [.tmp 6,.tmp 7]:=by kernel_rfl
def Zg1:SCode :=
 (.seq (.reg [so 4 (.mv (.const (.pointer none))),so 5 (.mv (C 0))])
 (.seq (.seq (.reg [sm 7 0,so 8 (.iaddr none (T 7) (C 256)),so 9 (.load none (T 8)),so 10 (.bin .eql (T 9) (C 0)),sm 11 10,sg 12 (.mv (T 0)) 11 false,sg 13 (.call true Zfw [(T 12)]) 11 false,sg 14 (.un .not (T 13)) 11 false,so 15 (.pick (T 11) (.const (.bool true)) (T 14)),sm 16 15,sg 17 (.mv (T 1)) 16 false,sg 18 (.call true Zfy [(T 17)]) 16 false,sg 19 (.un .not (T 18)) 16 false,so 20 (.pick (T 16) (.const (.bool true)) (T 19))])
 (.cond (T 20)
 (.seq (.reg [so 4 (.mv (.const (.pointer none))),so 5 (.mv (C 3))])
 .ret)
 .skip))
 (.seq (.reg [so 21 (.build [(.pointer none),(.pointer none)] []),so 22 (.box (T 21)),sm 6 22])
 (.seq (.reg [sm 24 6,sm 25 0,so 26 (.call true ZbB [(T 25)]),sm 23 26,so 27 (.ext (T 23) 0),so 28 (.ext (T 23) 1),so 29 (.nilc (T 24)),so 30 (.faddr 0 (T 29)),sn (.store none (T 30) (T 27))])
 (.seq (.reg [sm 32 6,sm 33 1,so 34 (.call true ZbB [(T 33)]),sm 31 34,so 35 (.ext (T 31) 0),so 36 (.ext (T 31) 1),so 37 (.nilc (T 32)),so 38 (.faddr 1 (T 37)),sn (.store none (T 38) (T 35))])
 (.seq (.reg [sm 39 6,sm 4 39,so 5 (.mv (C 0))])
 .ret))))))
theorem ZkQ:Zam Tryz.prog 40 (Tryz.f95.body.getD .skip)=Zg1:=by kernel_rfl
theorem ZkR:Zaf Tryz.prog Tryz.f95=some [.tmp 4,.tmp 5]:=by kernel_rfl
def ZfQ:SCode :=
 (.seq (.reg [so 6 (.alloc [(.int .i64 (0)),(.slice none 0 0),(.int .i64 (0))])])
 (.seq (.seq (.reg [so 7 (.mv (C 1))])
 (.block 0
 (.loop
 (.seq (.seq (.reg [sm 11 7,so 12 (.bin .leq (T 11) (C 15))])
 (.cond (T 12)
 .skip
 (.exit 0)))
 (.seq (.block 1
 (.seq (.seq (.reg [sm 15 7,sm 16 2,so 17 (.len false (T 16)),so 18 (.bin .gtr (T 15) (T 17))])
 (.cond (T 18)
 (.seq (.reg [so 19 (.build [(.int .i64 (0)),(.slice none 0 0),(.int .i64 (0))] [(2,1,(C 2))]),sn (.store (some 3) (T 6) (T 19))])
 .ret)
 .skip))
 (.seq (.reg [so 8 (.mv (.const (.bool false)))])
 (.seq (.seq (.reg [so 9 (.mv (C 0))])
 (.block 2
 (.loop
 (.seq (.seq (.reg [sm 20 9,sm 21 0,so 22 (.len false (T 21)),so 23 (.bin .lss (T 20) (T 22))])
 (.cond (T 23)
 .skip
 (.exit 2)))
 (.seq (.block 3
 (.seq (.seq (.reg [sm 26 0,sm 27 9,so 28 (.iaddr none (T 26) (T 27)),so 29 (.load none (T 28)),so 30 (.bin .eql (T 29) (C 0))])
 (.cond (T 30)
 (.exit 3)
 .skip))
 (.seq (.reg [sm 31 1,sm 32 9,so 33 (.iaddr none (T 31) (T 32)),so 34 (.load none (T 33)),sm 35 0,sm 36 9,so 37 (.iaddr none (T 35) (T 36)),so 38 (.load none (T 37)),so 39 (.call true Zgh [(T 34),(T 38)]),sm 10 39])
 (.seq (.seq (.reg [sm 40 0,sm 41 9,so 42 (.iaddr none (T 40) (T 41)),so 43 (.load none (T 42)),sm 44 7,so 45 (.bin .eql (T 43) (T 44)),sm 46 45,sg 47 (.mv (T 10)) 46 true,sg 48 (.mv (T 2)) 46 true,sg 49 (.call true Zde [(T 47),(T 48)]) 46 true,so 50 (.pick (T 46) (T 49) (.const (.bool false)))])
 (.cond (T 50)
 (.seq (.reg [sm 51 9,sm 52 2,sm 53 7,so 54 (.sl none (T 52) (some (T 53)) none),so 55 (.build [(.int .i64 (0)),(.slice none 0 0),(.int .i64 (0))] [(0,1,(T 51)),(1,1,(T 54))]),sn (.store (some 3) (T 6) (T 55))])
 .ret)
 .skip))
 (.reg [sm 56 8,sm 57 56,sg 58 (.mv (T 2)) 57 false,sg 59 (.mv (T 7)) 57 false,sg 60 (.sl none (T 58) none (some (T 59))) 57 false,sg 61 (.mv (T 10)) 57 false,sg 62 (.call true Zde [(T 60),(T 61)]) 57 false,so 63 (.pick (T 57) (.const (.bool true)) (T 62)),sm 8 63])))))
 (.reg [sm 24 9,so 25 (.bin .add (T 24) (C 1)),sm 9 25]))))))
 (.seq (.reg [sm 64 8,so 65 (.un .not (T 64))])
 (.cond (T 65)
 (.seq (.reg [sm 66 2,sm 67 7,so 68 (.sl none (T 66) (some (T 67)) none),so 69 (.build [(.int .i64 (0)),(.slice none 0 0),(.int .i64 (0))] [(1,1,(T 68)),(2,1,(C 3))]),sn (.store (some 3) (T 6) (T 69))])
 .ret)
 .skip))))))
 (.reg [sm 13 7,so 14 (.bin .add (T 13) (C 1)),sm 7 14]))))))
 (.seq (.reg [sm 70 2,so 71 (.sl none (T 70) (some (C 15)) none),so 72 (.build [(.int .i64 (0)),(.slice none 0 0),(.int .i64 (0))] [(1,1,(T 71)),(2,1,(C 3))]),sn (.store (some 3) (T 6) (T 72))])
 .ret)))
theorem Zjo:Zam Tryz.prog 73 (Tryz.f96.body.getD .skip)=ZfQ:=by kernel_rfl
theorem Zjp:Zaf Tryz.prog Tryz.f96=some [.cell 6 (some 3)]:=by kernel_rfl
def Ze1:SCode :=
 (.seq (.reg [so 2 (.mv (C 0))])
 (.seq (.reg [so 3 (.mv (C 1))])
 (.seq (.seq (.reg [so 4 (.mv (C 0))])
 (.block 0
 (.loop
 (.seq (.seq (.reg [sm 5 4,sm 6 0,so 7 (.bin .lss (T 5) (T 6))])
 (.cond (T 7)
 .skip
 (.exit 0)))
 (.seq (.block 1
 (.reg [sm 10 3,so 11 (.bin .mul (C 2) (T 10)),sm 3 11]))
 (.reg [sm 8 4,so 9 (.bin .add (T 8) (C 1)),sm 4 9]))))))
 (.seq (.reg [sm 12 3,sm 2 12])
 .ret))))
theorem ZiQ:Zam Tryz.prog 13 (Tryz.f97.body.getD .skip)=Ze1:=by kernel_rfl
theorem ZiR:Zaf Tryz.prog Tryz.f97=some [.tmp 2]:=by kernel_rfl
def Ze2:SCode :=
 (.seq (.reg [so 2 (.mv (C 0))])
 (.seq (.seq (.reg [sm 4 0,so 5 (.len false (T 4)),so 6 (.bin .gtr (T 5) (C 320))])
 (.cond (T 6)
 (.seq (.reg [so 2 (.mv (C 4))])
 .ret)
 .skip))
 (.seq (.seq (.reg [so 3 (.mv (C 0))])
 (.block 0
 (.loop
 (.seq (.seq (.reg [sm 7 3,sm 8 0,so 9 (.len false (T 8)),so 10 (.bin .lss (T 7) (T 9))])
 (.cond (T 10)
 .skip
 (.exit 0)))
 (.seq (.block 1
 (.seq (.reg [sm 13 0,sm 14 3,so 15 (.iaddr none (T 13) (T 14)),so 16 (.load none (T 15)),so 17 (.bin .lss (T 16) (C 0)),sm 18 17,sg 19 (.mv (T 0)) 18 false,sg 20 (.mv (T 3)) 18 false,sg 21 (.iaddr none (T 19) (T 20)) 18 false,sg 22 (.load none (T 21)) 18 false,sg 23 (.bin .gtr (T 22) (C 15)) 18 false,so 24 (.pick (T 18) (.const (.bool true)) (T 23))])
 (.cond (T 24)
 (.seq (.reg [so 2 (.mv (C 1))])
 .ret)
 .skip)))
 (.reg [sm 11 3,so 12 (.bin .add (T 11) (C 1)),sm 3 12]))))))
 (.seq (.seq (.reg [sm 25 0,so 26 (.call true ZcV [(T 25)]),so 27 (.bin .gtr (T 26) (C 32768))])
 (.cond (T 27)
 (.seq (.reg [so 2 (.mv (C 3))])
 .ret)
 .skip))
 (.seq (.reg [so 2 (.mv (C 0))])
 .ret)))))
theorem ZiS:Zam Tryz.prog 28 (Tryz.f98.body.getD .skip)=Ze2:=by kernel_rfl
theorem ZiT:Zaf Tryz.prog Tryz.f98=some [.tmp 2]:=by kernel_rfl
def Ze3:SCode :=
 (.seq (.reg [so 2 (.mv (C 0))])
 (.seq (.reg [so 3 (.mv (C 0))])
 (.seq (.seq (.reg [so 4 (.mv (C 0))])
 (.block 0
 (.loop
 (.seq (.seq (.reg [sm 7 4,sm 8 0,so 9 (.len false (T 8)),so 10 (.bin .lss (T 7) (T 9))])
 (.cond (T 10)
 .skip
 (.exit 0)))
 (.seq (.block 1
 (.seq (.reg [sm 13 0,sm 14 4,so 15 (.iaddr none (T 13) (T 14)),so 16 (.load none (T 15)),so 17 (.bin .gtr (T 16) (C 0))])
 (.cond (T 17)
 (.seq (.reg [so 5 (.mv (C 32768))])
 (.seq (.seq (.reg [so 6 (.mv (C 0))])
 (.block 2
 (.loop
 (.seq (.seq (.reg [sm 18 6,sm 19 0,sm 20 4,so 21 (.iaddr none (T 19) (T 20)),so 22 (.load none (T 21)),so 23 (.bin .lss (T 18) (T 22))])
 (.cond (T 23)
 .skip
 (.exit 2)))
 (.seq (.block 3
 (.reg [sm 26 5,so 27 (.bin .quo (T 26) (C 2)),sm 5 27]))
 (.reg [sm 24 6,so 25 (.bin .add (T 24) (C 1)),sm 6 25]))))))
 (.reg [sm 28 3,sm 29 5,so 30 (.bin .add (T 28) (T 29)),sm 3 30])))
 .skip)))
 (.reg [sm 11 4,so 12 (.bin .add (T 11) (C 1)),sm 4 12]))))))
 (.seq (.reg [sm 31 3,sm 2 31])
 .ret))))
theorem ZiU:Zam Tryz.prog 32 (Tryz.f99.body.getD .skip)=Ze3:=by kernel_rfl
theorem ZiV:Zaf Tryz.prog Tryz.f99=some [.tmp 2]:=by kernel_rfl
def Zll:SCode :=
 (.seq (.reg [so 2 (.mv (C 0))])
 (.seq (.seq (.reg [sm 5 0,so 6 (.len false (T 5)),so 7 (.bin .gtr (T 6) (C 320))])
 (.cond (T 7)
 (.seq (.reg [so 2 (.mv (C 4))])
 .ret)
 .skip))
 (.seq (.seq (.reg [sm 8 0,so 9 (.len false (T 8)),so 10 (.mv (C 0))])
 (.block 0
 (.loop
 (.seq (.reg [so 11 (.bin .lss (T 10) (T 9))])
 (.seq (.cond (T 11)
 .skip
 (.exit 0))
 (.seq (.block 1
 (.seq (.reg [so 12 (.iaddr none (T 8) (T 10)),so 13 (.load none (T 12)),sm 4 13])
 (.seq (.reg [sm 14 4,so 15 (.bin .lss (T 14) (C 0)),sm 16 15,sg 17 (.mv (T 4)) 16 false,sg 18 (.bin .gtr (T 17) (C 15)) 16 false,so 19 (.pick (T 16) (.const (.bool true)) (T 18))])
 (.cond (T 19)
 (.seq (.reg [so 2 (.mv (C 1))])
 .ret)
 .skip))))
 (.reg [so 20 (.bin .add (T 10) (C 1)),sm 10 20])))))))
 (.seq (.seq (.reg [sm 21 0,so 22 (.call true Zgj [(T 21)]),so 23 (.bin .gtr (T 22) (C 32768))])
 (.cond (T 23)
 (.seq (.reg [so 2 (.mv (C 3))])
 .ret)
 .skip))
 (.seq (.reg [so 2 (.mv (C 0))])
 .ret)))))
theorem Zpz:Zam Tryz.prog 24 (Tryz.f124.body.getD .skip)=Zll:=by kernel_rfl
theorem ZpA:Zaf Tryz.prog Tryz.f124=some [.tmp 2]:=by kernel_rfl
def ZhO:SCode :=
 (.seq (.reg [so 2 (.alloc (List.replicate 16 (.int .i64 (0))))])
 (.seq (.reg [so 3 (.alloc (List.replicate 16 (.int .i64 (0))))])
 (.seq (.seq (.reg [sm 8 0,so 9 (.len false (T 8)),so 10 (.mv (C 0))])
 (.block 0
 (.loop
 (.seq (.reg [so 11 (.bin .lss (T 10) (T 9))])
 (.seq (.cond (T 11)
 .skip
 (.exit 0))
 (.seq (.block 1
 (.seq (.reg [so 12 (.iaddr none (T 8) (T 10)),so 13 (.load none (T 12)),sm 5 13])
 (.reg [sm 14 5,so 15 (.iaddrA 16 none (T 3) (T 14)),so 16 (.load none (T 15)),so 17 (.bin .add (T 16) (C 1)),so 18 (.iaddrA 16 none (T 3) (T 14)),sn (.store none (T 18) (T 17))])))
 (.reg [so 19 (.bin .add (T 10) (C 1)),sm 10 19])))))))
 (.seq (.reg [so 20 (.iaddrA 16 none (T 3) (C 0)),sn (.store none (T 20) (C 0))])
 (.seq (.reg [so 6 (.alloc (List.replicate 16 (.int .i64 (0))))])
 (.seq (.seq (.reg [so 21 (.mv (C 0))])
 (.block 2
 (.loop
 (.seq (.reg [so 22 (.bin .lss (T 21) (C 15))])
 (.seq (.cond (T 22)
 .skip
 (.exit 2))
 (.seq (.block 3
 (.seq (.reg [sm 23 21,sm 7 23])
 (.reg [sm 24 7,so 25 (.bin .add (T 24) (C 1)),sm 26 7,so 27 (.iaddrA 16 none (T 6) (T 26)),so 28 (.load none (T 27)),sm 29 7,so 30 (.iaddrA 16 none (T 3) (T 29)),so 31 (.load none (T 30)),so 32 (.bin .add (T 28) (T 31)),so 33 (.bin .shl (T 32) (.const (.int .u64 (1)))),so 34 (.iaddrA 16 none (T 6) (T 25)),sn (.store none (T 34) (T 33))])))
 (.reg [so 35 (.bin .add (T 21) (C 1)),sm 21 35])))))))
 (.seq (.reg [so 36 (.load (some 16) (T 6)),sn (.store (some 16) (T 2) (T 36))])
 .ret)))))))
theorem ZlE:Zam Tryz.prog 37 (Tryz.f125.body.getD .skip)=ZhO:=by kernel_rfl
theorem ZlF:Zaf Tryz.prog Tryz.f125=some [.cell 2 (some 16)]:=by kernel_rfl
def Zlm:SCode :=
 (.seq (.reg [so 2 (.mv (C 0))])
 (.seq (.reg [so 3 (.mv (C 0))])
 (.seq (.seq (.reg [sm 6 0,so 7 (.len false (T 6)),so 8 (.mv (C 0))])
 (.block 0
 (.loop
 (.seq (.reg [so 9 (.bin .lss (T 8) (T 7))])
 (.seq (.cond (T 9)
 .skip
 (.exit 0))
 (.seq (.block 1
 (.seq (.reg [so 10 (.iaddr none (T 6) (T 8)),so 11 (.load none (T 10)),sm 5 11])
 (.seq (.reg [sm 12 5,so 13 (.bin .gtr (T 12) (C 0))])
 (.cond (T 13)
 (.reg [sm 14 3,sm 15 5,so 16 (.bin .shr (C 32768) (T 15)),so 17 (.bin .add (T 14) (T 16)),sm 3 17])
 .skip))))
 (.reg [so 18 (.bin .add (T 8) (C 1)),sm 8 18])))))))
 (.seq (.reg [sm 19 3,sm 2 19])
 .ret))))
theorem ZpB:Zam Tryz.prog 20 (Tryz.f126.body.getD .skip)=Zlm:=by kernel_rfl
theorem ZpC:Zaf Tryz.prog Tryz.f126=some [.tmp 2]:=by kernel_rfl
def ZfR:SCode :=
 (.seq (.reg [so 4 (.mv (.const (.slice none 0 0)))])
 (.seq (.seq (.reg [sm 5 1,so 6 (.bin .lss (T 5) (C 0))])
 (.cond (T 6)
 (.reg [so 7 (.no),sn (.no)])
 .skip))
 (.seq (.seq (.reg [sm 8 1,sm 9 0,so 10 (.capn (T 9)),sm 11 0,so 12 (.len false (T 11)),so 13 (.bin .sub (T 10) (T 12)),so 14 (.bin .sub (T 8) (T 13)),sm 1 14])
 (.seq (.reg [sm 15 1,so 16 (.bin .gtr (T 15) (C 0))])
 (.cond (T 16)
 (.reg [sm 17 0,sm 18 0,so 19 (.capn (T 18)),so 20 (.sl none (T 17) none (some (T 19))),sm 21 1,so 22 (.appz none 8 [(.int .i64 (0))] (T 20) (T 21)),sm 23 0,so 24 (.len false (T 23)),so 25 (.sl none (T 22) none (some (T 24))),sm 0 25])
 .skip)))
 (.seq (.reg [sm 26 0,sm 4 26])
 .ret))))
theorem Zjq:Zam Tryz.prog 27 (Tryz.f117.body.getD .skip)=ZfR:=by kernel_rfl
theorem Zjr:Zaf Tryz.prog Tryz.f117=some [.tmp 4]:=by kernel_rfl
def ZnB:SCode :=
 (.seq (.reg [so 4 (.mv (.const (.int .u64 (0)))),so 5 (.mv (.const (.int .u64 (0))))])
 (.seq (.cond (.const (.bool false))
 (.seq (.reg [sm 11 0,so 12 (.ci .u32 (T 11)),sm 13 1,so 14 (.ci .u32 (T 13)),so 15 (.call true Zpw [(T 12),(T 14)]),sm 10 15,so 16 (.ext (T 10) 0),so 17 (.ext (T 10) 1),sm 6 16,sm 7 17])
 (.seq (.reg [sm 18 6,so 19 (.ci .u64 (T 18)),sm 20 7,so 21 (.ci .u64 (T 20)),sm 4 19,sm 5 21])
 .ret))
 .skip)
 (.seq (.reg [sm 23 0,sm 24 1,so 25 (.call true Zlj [(T 23),(T 24)]),sm 22 25,so 26 (.ext (T 22) 0),so 27 (.ext (T 22) 1),sm 8 26,sm 9 27])
 (.seq (.reg [sm 28 8,sm 29 9,sm 4 28,sm 5 29])
 .ret))))
theorem Zuj:Zam Tryz.prog 30 (Tryz.f118.body.getD .skip)=ZnB:=by kernel_rfl
theorem Zuk:Zaf Tryz.prog Tryz.f118=some [.tmp 4,.tmp 5]:=by kernel_rfl
def Zgt:SCode :=
 (.seq (.reg [so 6 (.mv (.const (.bool false)))])
 (.seq (.reg [sm 7 1,sm 8 2,so 9 (.bin .sub (C 15) (T 8)),so 10 (.bin .shl (T 7) (T 9)),sm 11 0,so 12 (.nilc (T 11)),so 13 (.faddr 32 (T 12)),so 14 (.load none (T 13)),so 15 (.bin .lss (T 10) (T 14)),sm 6 15])
 .ret))
theorem Zka:Zam Tryz.prog 16 (Tryz.f127.body.getD .skip)=Zgt:=by kernel_rfl
theorem Zkb:Zaf Tryz.prog Tryz.f127=some [.tmp 6]:=by kernel_rfl
def Zaz:SCode :=
 (.seq (.reg [so 4 (.mv (C 0)),so 5 (.mv (C 0))])
 (.seq (.block 0
 (.seq (.reg [sm 8 1,so 9 (.bin .geq (T 8) (C 29)),sm 7 9])
 (.cond (T 7)
 (.seq (.reg [so 4 (.mv (C 0)),so 5 (.mv (C 3))])
 .ret)
 (.seq (.reg [sm 11 1,so 12 (.bin .eql (T 11) (C 28)),sm 10 12])
 (.cond (T 10)
 (.seq (.reg [so 4 (.mv (C 258)),so 5 (.mv (C 0))])
 .ret)
 (.seq (.reg [sm 14 1,so 15 (.bin .lss (T 14) (C 8)),sm 13 15])
 (.cond (T 13)
 (.seq (.reg [sm 16 1,so 17 (.bin .add (C 3) (T 16)),sm 4 17,so 5 (.mv (C 0))])
 .ret)
 .skip)))))))
 (.seq (.reg [sm 18 1,so 19 (.bin .quo (T 18) (C 4)),so 20 (.bin .sub (T 19) (C 1)),sm 6 20])
 (.seq (.reg [sm 21 0,sm 22 1,so 23 (.bin .rem (T 22) (C 4)),so 24 (.bin .add (C 4) (T 23)),sm 25 6,so 26 (.bin .shl (T 24) (T 25)),so 27 (.bin .add (C 3) (T 26)),sm 28 6,so 29 (.call true ZaO [(T 21),(T 27),(T 28)]),so 30 (.ext (T 29) 0),so 31 (.ext (T 29) 1),sm 4 30,sm 5 31])
 .ret))))
theorem ZaW:Zam Tryz.prog 32 (Tryz.f128.body.getD .skip)=Zaz:=by kernel_rfl
theorem ZaX:Zaf Tryz.prog Tryz.f128=some [.tmp 4,.tmp 5]:=by kernel_rfl
def ZaL:SCode :=
 (.seq (.reg [so 4 (.mv (C 0)),so 5 (.mv (C 0))])
 (.seq (.block 0
 (.seq (.reg [sm 8 1,so 9 (.bin .geq (T 8) (C 30)),sm 7 9])
 (.cond (T 7)
 (.seq (.reg [so 4 (.mv (C 0)),so 5 (.mv (C 3))])
 .ret)
 (.seq (.reg [sm 11 1,so 12 (.bin .lss (T 11) (C 4)),sm 10 12])
 (.cond (T 10)
 (.seq (.reg [sm 13 1,so 14 (.bin .add (C 1) (T 13)),sm 4 14,so 5 (.mv (C 0))])
 .ret)
 .skip)))))
 (.seq (.reg [sm 15 1,so 16 (.bin .quo (T 15) (C 2)),so 17 (.bin .sub (T 16) (C 1)),sm 6 17])
 (.seq (.reg [sm 18 0,sm 19 1,so 20 (.bin .rem (T 19) (C 2)),so 21 (.bin .add (C 2) (T 20)),sm 22 6,so 23 (.bin .shl (T 21) (T 22)),so 24 (.bin .add (C 1) (T 23)),sm 25 6,so 26 (.call true ZaO [(T 18),(T 24),(T 25)]),so 27 (.ext (T 26) 0),so 28 (.ext (T 26) 1),sm 4 27,sm 5 28])
 .ret))))
theorem Za1:Zam Tryz.prog 29 (Tryz.f129.body.getD .skip)=ZaL:=by kernel_rfl
theorem Za2:Zaf Tryz.prog Tryz.f129=some [.tmp 4,.tmp 5]:=by kernel_rfl
def Zmy:SCode :=
 (.seq (.reg [so 2 (.mv (.const (.bool false)))])
 (.seq (.reg [sm 3 0,so 4 (.call true Zh7 [(T 3)]),so 5 (.bin .eql (T 4) (C 0)),sm 6 5,sg 7 (.mv (T 0)) 6 true,sg 8 (.call true Zgj [(T 7)]) 6 true,sg 9 (.bin .eql (T 8) (C 32768)) 6 true,so 10 (.pick (T 6) (T 9) (.const (.bool false))),sm 2 10])
 .ret))
theorem Zrn:Zam Tryz.prog 11 (Tryz.f130.body.getD .skip)=Zmy:=by kernel_rfl
theorem Zro:Zaf Tryz.prog Tryz.f130=some [.tmp 2]:=by kernel_rfl
def ZbU:SCode :=
 (.seq (.reg [so 6 (.mv (C 0)),so 7 (.mv (C 0))])
 (.seq (.reg [sm 11 0,so 12 (.nilc (T 11)),so 13 (.faddr 0 (T 12)),so 14 (.load none (T 13)),sm 15 2,so 16 (.call true ZaS [(T 14),(T 15)]),sm 10 16,so 17 (.ext (T 10) 0),so 18 (.ext (T 10) 1),sm 8 17,sm 9 18])
 (.seq (.seq (.reg [sm 19 9,so 20 (.un .not (T 19))])
 (.cond (T 20)
 (.seq (.reg [so 6 (.mv (C 0)),so 7 (.mv (C 2))])
 .ret)
 .skip))
 (.seq (.reg [sm 21 1,sm 22 8,so 23 (.bin .add (T 21) (T 22)),sm 6 23,so 7 (.mv (C 0))])
 .ret))))
theorem ZdY:Zam Tryz.prog 24 (Tryz.f131.body.getD .skip)=ZbU:=by kernel_rfl
theorem ZdZ:Zaf Tryz.prog Tryz.f131=some [.tmp 6,.tmp 7]:=by kernel_rfl
def ZfS:SCode :=
 (.seq (.reg [so 2 (.mv (.const (.bool false)))])
 (.seq (.reg [so 3 (.mv (C 0))])
 (.seq (.seq (.reg [sm 6 0,so 7 (.len false (T 6)),so 8 (.mv (C 0))])
 (.block 0
 (.loop
 (.seq (.reg [so 9 (.bin .lss (T 8) (T 7))])
 (.seq (.cond (T 9)
 .skip
 (.exit 0))
 (.seq (.block 1
 (.seq (.reg [so 10 (.iaddr none (T 6) (T 8)),so 11 (.load none (T 10)),sm 5 11])
 (.reg [sm 12 3,sm 13 5,so 14 (.bin .add (T 12) (T 13)),sm 3 14])))
 (.reg [so 15 (.bin .add (T 8) (C 1)),sm 8 15])))))))
 (.seq (.reg [sm 16 3,so 17 (.bin .leq (T 16) (C 1)),sm 18 17,sg 19 (.mv (T 0)) 18 false,sg 20 (.call true Zfw [(T 19)]) 18 false,so 21 (.pick (T 18) (.const (.bool true)) (T 20)),sm 2 21])
 .ret))))
theorem Zjs:Zam Tryz.prog 22 (Tryz.f132.body.getD .skip)=ZfS:=by kernel_rfl
theorem Zjt:Zaf Tryz.prog Tryz.f132=some [.tmp 2]:=by kernel_rfl
def Zgu:SCode :=
 (.seq (.reg [so 4 (.mv (.const (.slice none 0 0)))])
 (.seq (.reg [so 5 (.mv (.const (.slice none 0 0)))])
 (.seq (.seq (.reg [sm 7 1,so 8 (.bin .sub (T 7) (C 1)),sm 6 8])
 (.block 0
 (.loop
 (.seq (.seq (.reg [sm 9 6,so 10 (.bin .geq (T 9) (C 0))])
 (.cond (T 10)
 .skip
 (.exit 0)))
 (.seq (.block 1
 (.reg [sm 13 5,sm 14 0,sm 15 6,so 16 (.ci .u64 (T 15)),so 17 (.bin .shr (T 14) (T 16)),so 18 (.bin .and (T 17) (C 1)),so 19 (.bslice none [(T 18)]),so 20 (.app none 8 (T 13) (T 19)),sm 5 20]))
 (.reg [sm 11 6,so 12 (.bin .sub (T 11) (C 1)),sm 6 12]))))))
 (.seq (.reg [sm 21 5,sm 4 21])
 .ret))))
theorem Zkc:Zam Tryz.prog 22 (Tryz.f133.body.getD .skip)=Zgu:=by kernel_rfl
theorem Zkd:Zaf Tryz.prog Tryz.f133=some [.tmp 4]:=by kernel_rfl
def ZfT:SCode :=
 (.seq (.reg [so 4 (.mv (.const (.bool false)))])
 (.seq (.seq (.reg [sm 6 0,so 7 (.len false (T 6)),sm 8 1,so 9 (.len false (T 8)),so 10 (.bin .gtr (T 7) (T 9))])
 (.cond (T 10)
 (.seq (.reg [so 4 (.mv (.const (.bool false)))])
 .ret)
 .skip))
 (.seq (.seq (.reg [so 5 (.mv (C 0))])
 (.block 0
 (.loop
 (.seq (.seq (.reg [sm 11 5,sm 12 0,so 13 (.len false (T 12)),so 14 (.bin .lss (T 11) (T 13))])
 (.cond (T 14)
 .skip
 (.exit 0)))
 (.seq (.block 1
 (.seq (.reg [sm 17 0,sm 18 5,so 19 (.iaddr none (T 17) (T 18)),so 20 (.load none (T 19)),sm 21 1,sm 22 5,so 23 (.iaddr none (T 21) (T 22)),so 24 (.load none (T 23)),so 25 (.bin .neq (T 20) (T 24))])
 (.cond (T 25)
 (.seq (.reg [so 4 (.mv (.const (.bool false)))])
 .ret)
 .skip)))
 (.reg [sm 15 5,so 16 (.bin .add (T 15) (C 1)),sm 5 16]))))))
 (.seq (.reg [so 4 (.mv (.const (.bool true)))])
 .ret))))
theorem Zju:Zam Tryz.prog 26 (Tryz.f134.body.getD .skip)=ZfT:=by kernel_rfl
theorem Zjv:Zaf Tryz.prog Tryz.f134=some [.tmp 4]:=by kernel_rfl
def Zln:SCode :=
 (.seq (.reg [so 4 (.mv (.const (.int .u64 (0)))),so 5 (.mv (.const (.int .u64 (0))))])
 (.seq (.reg [sm 14 0,so 15 (.bin .and (T 14) (.const (.int .u64 (4294967295)))),sm 6 15])
 (.seq (.reg [sm 16 0,so 17 (.bin .shr (T 16) (.const (.int .u64 (32)))),sm 7 17])
 (.seq (.reg [sm 18 1,so 19 (.bin .and (T 18) (.const (.int .u64 (4294967295)))),sm 8 19])
 (.seq (.reg [sm 20 1,so 21 (.bin .shr (T 20) (.const (.int .u64 (32)))),sm 9 21])
 (.seq (.reg [sm 22 6,sm 23 8,so 24 (.bin .mul (T 22) (T 23)),sm 10 24])
 (.seq (.reg [sm 25 7,sm 26 8,so 27 (.bin .mul (T 25) (T 26)),sm 28 10,so 29 (.bin .shr (T 28) (.const (.int .u64 (32)))),so 30 (.bin .add (T 27) (T 29)),sm 11 30])
 (.seq (.reg [sm 31 11,so 32 (.bin .and (T 31) (.const (.int .u64 (4294967295)))),sm 12 32])
 (.seq (.reg [sm 33 11,so 34 (.bin .shr (T 33) (.const (.int .u64 (32)))),sm 13 34])
 (.seq (.reg [sm 35 12,sm 36 6,sm 37 9,so 38 (.bin .mul (T 36) (T 37)),so 39 (.bin .add (T 35) (T 38)),sm 12 39])
 (.seq (.reg [sm 40 7,sm 41 9,so 42 (.bin .mul (T 40) (T 41)),sm 43 13,so 44 (.bin .add (T 42) (T 43)),sm 45 12,so 46 (.bin .shr (T 45) (.const (.int .u64 (32)))),so 47 (.bin .add (T 44) (T 46)),sm 4 47])
 (.seq (.reg [sm 48 0,sm 49 1,so 50 (.bin .mul (T 48) (T 49)),sm 5 50])
 .ret))))))))))))
theorem ZpD:Zam Tryz.prog 51 (Tryz.f142.body.getD .skip)=Zln:=by kernel_rfl
theorem ZpE:Zaf Tryz.prog Tryz.f142=some [.tmp 4,.tmp 5]:=by kernel_rfl
def ZhP:SCode :=
 (.seq (.reg [so 0 (.mv (.const (.pointer none)))])
 (.seq (.reg [so 1 (.build [(.slice none 0 0),(.int .i64 (0))] []),so 2 (.box (T 1)),sm 0 2])
 .ret))
theorem ZlG:Zam Tryz.prog 3 (Tryz.f13.body.getD .skip)=ZhP:=by kernel_rfl
theorem ZlH:Zaf Tryz.prog Tryz.f13=some [.tmp 0]:=by kernel_rfl
def Zd0:SCode :=
 (.seq (.reg [so 2 (.box (T 0))])
 (.seq (.block 0
 (.loop
 (.seq (.seq (.reg [sm 4 1,so 5 (.len false (T 4)),so 6 (.bin .gtr (T 5) (C 65535))])
 (.cond (T 6)
 .skip
 (.exit 0)))
 (.block 1
 (.seq (.reg [so 7 (.load (some 1) (T 2)),sm 8 1,so 9 (.sl none (T 8) none (some (C 65535))),so 10 (.call true Zbg [(T 7),(C 0),(T 9)])])
 (.reg [sm 11 1,so 12 (.sl none (T 11) (some (C 65535)) none),sm 1 12]))))))
 (.reg [so 13 (.load (some 1) (T 2)),sm 14 1,so 15 (.call true Zbg [(T 13),(C 1),(T 14)])])))
theorem Zhv:Zam Tryz.prog 16 (Tryz.f14.body.getD .skip)=Zd0:=by kernel_rfl
theorem Zhw:Zaf Tryz.prog Tryz.f14=some []:=by kernel_rfl
def ZfU:SCode :=
 (.seq (.reg [so 2 (.mv (.const (.slice none 0 0)))])
 (.seq (.reg [sm 3 0,so 4 (.nilc (T 3)),so 5 (.faddr 0 (T 4)),so 6 (.load none (T 5)),so 7 (.call true ZdD [(T 6)]),sm 2 7])
 .ret))
theorem Zjw:Zam Tryz.prog 8 (Tryz.f18.body.getD .skip)=ZfU:=by kernel_rfl
theorem Zjx:Zaf Tryz.prog Tryz.f18=some [.tmp 2]:=by kernel_rfl
def Zct:SCode :=
 (.seq (.reg [so 2 (.mv (.const (.slice none 0 0)))])
 (.seq (.reg [so 3 (.mv (.const (.slice none 0 0)))])
 (.seq (.seq (.reg [sm 5 0,so 6 (.len false (T 5)),so 7 (.bin .sub (T 6) (C 1)),sm 4 7])
 (.block 0
 (.loop
 (.seq (.seq (.reg [sm 8 4,so 9 (.bin .geq (T 8) (C 0))])
 (.cond (T 9)
 .skip
 (.exit 0)))
 (.seq (.block 1
 (.reg [sm 12 3,sm 13 0,sm 14 4,so 15 (.iaddr none (T 13) (T 14)),so 16 (.load none (T 15)),so 17 (.bslice none [(T 16)]),so 18 (.app none 1 (T 12) (T 17)),sm 3 18]))
 (.reg [sm 10 4,so 11 (.bin .sub (T 10) (C 1)),sm 4 11]))))))
 (.seq (.reg [sm 19 3,sm 2 19])
 .ret))))
theorem ZeB:Zam Tryz.prog 20 (Tryz.f111.body.getD .skip)=Zct:=by kernel_rfl
theorem ZeC:Zaf Tryz.prog Tryz.f111=some [.tmp 2]:=by kernel_rfl
def Zg2:SCode :=
 (.seq (.reg [so 4 (.mv (.const (.slice none 0 0)))])
 (.seq (.seq (.reg [sm 7 1,so 8 (.bin .lss (T 7) (C 1)),sm 9 8,sg 10 (.mv (T 1)) 9 false,sg 11 (.bin .gtr (T 10) (C 8)) 9 false,so 12 (.pick (T 9) (.const (.bool true)) (T 11))])
 (.cond (T 12)
 (.seq (.reg [so 4 (.mv (.const (.slice none 0 0)))])
 .ret)
 .skip))
 (.seq (.reg [so 5 (.mv (.const (.slice none 0 0)))])
 (.seq (.seq (.reg [so 6 (.mv (C 0))])
 (.block 0
 (.loop
 (.seq (.seq (.reg [sm 13 6,sm 14 1,so 15 (.bin .lss (T 13) (T 14))])
 (.cond (T 15)
 .skip
 (.exit 0)))
 (.seq (.block 1
 (.seq (.reg [sm 18 0,so 19 (.bin .rem (T 18) (.const (.int .u64 (256)))),so 20 (.ci .u8 (T 19)),so 21 (.bsl none [(T 20)]),sm 22 5,so 23 (.app none 1 (T 21) (T 22)),sm 5 23])
 (.reg [sm 24 0,so 25 (.bin .quo (T 24) (.const (.int .u64 (256)))),sm 0 25])))
 (.reg [sm 16 6,so 17 (.bin .add (T 16) (C 1)),sm 6 17]))))))
 (.seq (.reg [sm 26 5,sm 4 26])
 .ret)))))
theorem ZkS:Zam Tryz.prog 27 (Tryz.f112.body.getD .skip)=Zg2:=by kernel_rfl
theorem ZkT:Zaf Tryz.prog Tryz.f112=some [.tmp 4]:=by kernel_rfl
def Zce:SCode :=
 (.seq (.reg [so 3 (.box (T 0))])
 (.seq (.reg [so 6 (.load (some 1) (T 3)),sm 7 1,so 8 (.call true Zd5 [(T 6),(T 7),(C 0)])])
 (.seq (.reg [so 9 (.faddr 0 (T 3)),so 10 (.load none (T 9)),so 11 (.call true Zdj [(T 10)])])
 (.seq (.reg [so 12 (.faddr 0 (T 3)),so 13 (.load none (T 12)),sm 14 2,so 15 (.len false (T 14)),so 16 (.call true ZbJ [(T 13),(T 15),(C 16)])])
 (.seq (.reg [so 17 (.faddr 0 (T 3)),so 18 (.load none (T 17)),sm 19 2,so 20 (.len false (T 19)),so 21 (.bin .sub (C 65535) (T 20)),so 22 (.call true ZbJ [(T 18),(T 21),(C 16)])])
 (.reg [so 23 (.faddr 0 (T 3)),so 24 (.load none (T 23)),sm 25 2,so 26 (.call true ZgS [(T 24),(T 25)])]))))))
theorem Zfb:Zam Tryz.prog 27 (Tryz.f33.body.getD .skip)=Zce:=by kernel_rfl
theorem Zfc:Zaf Tryz.prog Tryz.f33=some []:=by kernel_rfl
def Zd9:SCode :=
 (.seq (.reg [so 3 (.box (T 0))])
 (.seq (.reg [so 6 (.faddr 0 (T 3)),so 7 (.load none (T 6)),sm 8 1,so 9 (.call true ZbJ [(T 7),(T 8),(C 1)])])
 (.reg [so 10 (.faddr 0 (T 3)),so 11 (.load none (T 10)),sm 12 2,so 13 (.call true ZbJ [(T 11),(T 12),(C 2)])])))
theorem ZhU:Zam Tryz.prog 14 (Tryz.f34.body.getD .skip)=Zd9:=by kernel_rfl
theorem ZhV:Zaf Tryz.prog Tryz.f34=some []:=by kernel_rfl
def ZfV:SCode :=
 (.reg [sm 2 0,sm 3 0,so 4 (.nilc (T 3)),so 5 (.faddr 0 (T 4)),so 6 (.load none (T 5)),so 7 (.len false (T 6)),so 8 (.bin .mul (T 7) (C 8)),so 9 (.nilc (T 2)),so 10 (.faddr 1 (T 9)),sn (.store none (T 10) (T 8))])
theorem Zjy:Zam Tryz.prog 11 (Tryz.f67.body.getD .skip)=ZfV:=by kernel_rfl
theorem Zjz:Zaf Tryz.prog Tryz.f67=some []:=by kernel_rfl
def Zg3:SCode :=
 (.seq (.seq (.reg [sm 7 2,so 8 (.bin .lss (T 7) (C 0)),sm 9 8,sg 10 (.mv (T 2)) 9 false,sg 11 (.bin .gtr (T 10) (C 24)) 9 false,so 12 (.pick (T 9) (.const (.bool true)) (T 11))])
 (.cond (T 12)
 .ret
 .skip))
 (.seq (.reg [sm 13 2,so 14 (.mv (C 0))])
 (.block 0
 (.loop
 (.seq (.reg [so 15 (.bin .lss (T 14) (T 13))])
 (.seq (.cond (T 15)
 .skip
 (.exit 0))
 (.seq (.block 1
 (.seq (.reg [sm 16 14,sm 6 16])
 (.reg [sm 17 0,sm 18 1,sm 19 6,so 20 (.bin .shr (T 18) (T 19)),so 21 (.bin .and (T 20) (C 1)),so 22 (.call true ZgT [(T 17),(T 21)])])))
 (.reg [so 23 (.bin .add (T 14) (C 1)),sm 14 23]))))))))
theorem ZkU:Zam Tryz.prog 24 (Tryz.f68.body.getD .skip)=Zg3:=by kernel_rfl
theorem ZkV:Zaf Tryz.prog Tryz.f68=some []:=by kernel_rfl
def Zg4:SCode :=
 (.seq (.reg [sm 4 0,sm 5 0,so 6 (.nilc (T 5)),so 7 (.faddr 0 (T 6)),so 8 (.load none (T 7)),sm 9 1,so 10 (.app none 1 (T 8) (T 9)),so 11 (.nilc (T 4)),so 12 (.faddr 0 (T 11)),sn (.store none (T 12) (T 10))])
 (.reg [sm 13 0,so 14 (.call true Zdj [(T 13)])]))
theorem ZkW:Zam Tryz.prog 15 (Tryz.f69.body.getD .skip)=Zg4:=by kernel_rfl
theorem ZkX:Zaf Tryz.prog Tryz.f69=some []:=by kernel_rfl
def Zg5:SCode :=
 (.seq (.seq (.reg [sm 4 0,so 5 (.nilc (T 4)),so 6 (.faddr 1 (T 5)),so 7 (.load none (T 6)),so 8 (.bin .rem (T 7) (C 8)),so 9 (.bin .eql (T 8) (C 0))])
 (.cond (T 9)
 (.reg [sm 10 0,sm 11 0,so 12 (.nilc (T 11)),so 13 (.faddr 0 (T 12)),so 14 (.load none (T 13)),so 15 (.bslice none [(.const (.int .u8 (0)))]),so 16 (.app none 1 (T 14) (T 15)),so 17 (.nilc (T 10)),so 18 (.faddr 0 (T 17)),sn (.store none (T 18) (T 16))])
 .skip))
 (.seq (.reg [sm 19 0,so 20 (.nilc (T 19)),so 21 (.faddr 0 (T 20)),so 22 (.load none (T 21)),sm 23 0,so 24 (.nilc (T 23)),so 25 (.faddr 1 (T 24)),so 26 (.load none (T 25)),so 27 (.bin .quo (T 26) (C 8)),so 28 (.iaddr none (T 22) (T 27)),so 29 (.load none (T 28)),sm 30 1,sm 31 0,so 32 (.nilc (T 31)),so 33 (.faddr 1 (T 32)),so 34 (.load none (T 33)),so 35 (.bin .rem (T 34) (C 8)),so 36 (.bin .shl (T 30) (T 35)),so 37 (.ci .u8 (T 36)),so 38 (.bin .or (T 29) (T 37)),so 39 (.iaddr none (T 22) (T 27)),sn (.store none (T 39) (T 38))])
 (.reg [sm 40 0,so 41 (.nilc (T 40)),so 42 (.faddr 1 (T 41)),so 43 (.load none (T 42)),so 44 (.bin .add (T 43) (C 1)),so 45 (.nilc (T 40)),so 46 (.faddr 1 (T 45)),sn (.store none (T 46) (T 44))])))
theorem ZkY:Zam Tryz.prog 47 (Tryz.f113.body.getD .skip)=Zg5:=by kernel_rfl
theorem ZkZ:Zaf Tryz.prog Tryz.f113=some []:=by kernel_rfl
def Zgv:SCode :=
 (.seq (.reg [so 2 (.mv (.const (.int .u32 (0))))])
 (.seq (.reg [so 3 (.mv (.const (.int .u32 (4294967295))))])
 (.seq (.seq (.reg [so 4 (.mv (C 0))])
 (.block 0
 (.loop
 (.seq (.seq (.reg [sm 7 4,sm 8 0,so 9 (.len false (T 8)),so 10 (.bin .lss (T 7) (T 9))])
 (.cond (T 10)
 .skip
 (.exit 0)))
 (.seq (.block 1
 (.seq (.reg [sm 13 3,sm 14 0,sm 15 4,so 16 (.iaddr none (T 14) (T 15)),so 17 (.load none (T 16)),so 18 (.ci .u32 (T 17)),so 19 (.bin .xor (T 13) (T 18)),sm 3 19])
 (.seq (.reg [so 5 (.mv (C 0))])
 (.block 2
 (.loop
 (.seq (.seq (.reg [sm 20 5,so 21 (.bin .lss (T 20) (C 8))])
 (.cond (T 21)
 .skip
 (.exit 2)))
 (.seq (.block 3
 (.seq (.reg [sm 24 3,so 25 (.bin .rem (T 24) (.const (.int .u32 (2)))),so 26 (.bin .eql (T 25) (.const (.int .u32 (1)))),sm 6 26])
 (.seq (.reg [sm 27 3,so 28 (.bin .quo (T 27) (.const (.int .u32 (2)))),sm 3 28])
 (.seq (.reg [sm 29 6])
 (.cond (T 29)
 (.reg [sm 30 3,so 31 (.bin .xor (T 30) (.const (.int .u32 (3988292384)))),sm 3 31])
 .skip)))))
 (.reg [sm 22 5,so 23 (.bin .add (T 22) (C 1)),sm 5 23]))))))))
 (.reg [sm 11 4,so 12 (.bin .add (T 11) (C 1)),sm 4 12]))))))
 (.seq (.reg [sm 32 3,so 33 (.un .xor (T 32)),sm 2 33])
 .ret))))
theorem Zke:Zam Tryz.prog 34 (Tryz.f65.body.getD .skip)=Zgv:=by kernel_rfl
theorem Zkf:Zaf Tryz.prog Tryz.f65=some [.tmp 2]:=by kernel_rfl
def Ze4:SCode :=
 (.seq (.reg [so 6 (.mv (.const (.int .u64 (0)))),so 7 (.mv (.const (.bool false)))])
 (.seq (.seq (.reg [sm 10 2,so 11 (.bin .lss (T 10) (C 1)),sm 12 11,sg 13 (.mv (T 2)) 12 false,sg 14 (.bin .gtr (T 13) (C 8)) 12 false,so 15 (.pick (T 12) (.const (.bool true)) (T 14)),sm 16 15,sg 17 (.mv (T 1)) 16 false,sg 18 (.bin .lss (T 17) (C 0)) 16 false,so 19 (.pick (T 16) (.const (.bool true)) (T 18)),sm 20 19,sg 21 (.mv (T 1)) 20 false,sg 22 (.mv (T 0)) 20 false,sg 23 (.len false (T 22)) 20 false,sg 24 (.bin .gtr (T 21) (T 23)) 20 false,so 25 (.pick (T 20) (.const (.bool true)) (T 24)),sm 26 25,sg 27 (.mv (T 2)) 26 false,sg 28 (.mv (T 0)) 26 false,sg 29 (.len false (T 28)) 26 false,sg 30 (.mv (T 1)) 26 false,sg 31 (.bin .sub (T 29) (T 30)) 26 false,sg 32 (.bin .gtr (T 27) (T 31)) 26 false,so 33 (.pick (T 26) (.const (.bool true)) (T 32))])
 (.cond (T 33)
 (.seq (.reg [so 6 (.mv (.const (.int .u64 (0)))),so 7 (.mv (.const (.bool false)))])
 .ret)
 .skip))
 (.seq (.reg [so 8 (.mv (.const (.int .u64 (0))))])
 (.seq (.seq (.reg [so 9 (.mv (C 0))])
 (.block 0
 (.loop
 (.seq (.seq (.reg [sm 34 9,sm 35 2,so 36 (.bin .lss (T 34) (T 35))])
 (.cond (T 36)
 .skip
 (.exit 0)))
 (.seq (.block 1
 (.reg [sm 39 8,so 40 (.bin .mul (T 39) (.const (.int .u64 (256)))),sm 41 0,sm 42 1,sm 43 9,so 44 (.bin .add (T 42) (T 43)),so 45 (.iaddr none (T 41) (T 44)),so 46 (.load none (T 45)),so 47 (.ci .u64 (T 46)),so 48 (.bin .add (T 40) (T 47)),sm 8 48]))
 (.reg [sm 37 9,so 38 (.bin .add (T 37) (C 1)),sm 9 38]))))))
 (.seq (.reg [sm 49 8,sm 6 49,so 7 (.mv (.const (.bool true)))])
 .ret)))))
theorem ZiW:Zam Tryz.prog 50 (Tryz.f110.body.getD .skip)=Ze4:=by kernel_rfl
theorem ZiX:Zaf Tryz.prog Tryz.f110=some [.tmp 6,.tmp 7]:=by kernel_rfl
def Ze5:SCode :=
 (.seq (.reg [so 6 (.mv (.const (.int .u64 (0)))),so 7 (.mv (.const (.bool false)))])
 (.seq (.seq (.reg [sm 8 2,so 9 (.bin .lss (T 8) (C 1)),sm 10 9,sg 11 (.mv (T 2)) 10 false,sg 12 (.bin .gtr (T 11) (C 8)) 10 false,so 13 (.pick (T 10) (.const (.bool true)) (T 12)),sm 14 13,sg 15 (.mv (T 1)) 14 false,sg 16 (.bin .lss (T 15) (C 0)) 14 false,so 17 (.pick (T 14) (.const (.bool true)) (T 16)),sm 18 17,sg 19 (.mv (T 1)) 18 false,sg 20 (.mv (T 0)) 18 false,sg 21 (.len false (T 20)) 18 false,sg 22 (.bin .gtr (T 19) (T 21)) 18 false,so 23 (.pick (T 18) (.const (.bool true)) (T 22)),sm 24 23,sg 25 (.mv (T 2)) 24 false,sg 26 (.mv (T 0)) 24 false,sg 27 (.len false (T 26)) 24 false,sg 28 (.mv (T 1)) 24 false,sg 29 (.bin .sub (T 27) (T 28)) 24 false,sg 30 (.bin .gtr (T 25) (T 29)) 24 false,so 31 (.pick (T 24) (.const (.bool true)) (T 30))])
 (.cond (T 31)
 (.seq (.reg [so 6 (.mv (.const (.int .u64 (0)))),so 7 (.mv (.const (.bool false)))])
 .ret)
 .skip))
 (.seq (.reg [sm 32 0,sm 33 1,sm 34 1,sm 35 2,so 36 (.bin .add (T 34) (T 35)),so 37 (.sl none (T 32) (some (T 33)) (some (T 36))),so 38 (.call true Zby [(T 37)]),sm 39 2,so 40 (.call true ZeT [(T 38),(C 0),(T 39)]),so 41 (.ext (T 40) 0),so 42 (.ext (T 40) 1),sm 6 41,sm 7 42])
 .ret)))
theorem ZiY:Zam Tryz.prog 43 (Tryz.f63.body.getD .skip)=Ze5:=by kernel_rfl
theorem ZiZ:Zaf Tryz.prog Tryz.f63=some [.tmp 6,.tmp 7]:=by kernel_rfl
def ZcP:SCode :=
 (.seq (.reg [so 4 (.mv (.const (.bool false)))])
 (.seq (.seq (.reg [so 9 (.call true ZeS []),so 10 (.un .not (T 9))])
 (.cond (T 10)
 (.seq (.reg [so 4 (.mv (.const (.bool false)))])
 .ret)
 .skip))
 (.seq (.seq (.reg [sm 11 0,so 12 (.len false (T 11)),so 13 (.bin .gtr (T 12) (C 400)),sm 14 13,sg 15 (.mv (T 1)) 14 false,sg 16 (.bin .gtr (T 15) (C 5000)) 14 false,sg 17 (.mv (T 16)) 14 false,sg 18 (.mv (T 1)) 17 true,sg 19 (.bin .leq (T 18) (C 16777216)) 17 true,sg 20 (.pick (T 17) (T 19) (.const (.bool false))) 14 false,so 21 (.pick (T 14) (.const (.bool true)) (T 20))])
 (.cond (T 21)
 (.seq (.reg [so 4 (.mv (.const (.bool true)))])
 .ret)
 .skip))
 (.seq (.reg [sm 23 0,sm 24 1,so 25 (.call true ZdG [(T 23),(T 24)]),sm 22 25,so 26 (.ext (T 22) 0),so 27 (.ext (T 22) 1),so 6 (.alloc [(.string ⟨#[]⟩),(.int .i64 (0)),(.int .i64 (0))]),sm 5 26,sn (.store (some 3) (T 6) (T 27))])
 (.seq (.reg [sm 29 0,sm 30 1,so 31 (.call true Zcl [(T 29),(T 30)]),sm 28 31,so 32 (.ext (T 28) 0),so 33 (.ext (T 28) 1),so 8 (.alloc [(.string ⟨#[]⟩),(.int .i64 (0)),(.int .i64 (0))]),sm 7 32,sn (.store (some 3) (T 8) (T 33))])
 (.seq (.reg [sm 34 5,sm 35 7,so 36 (.call true Zdf [(T 34),(T 35)]),sm 37 36,sg 38 (.load (some 3) (T 6)) 37 true,sg 39 (.load (some 3) (T 8)) 37 true,sg 40 (.aeq false (.agg #[(.string ⟨#[]⟩),(.int .i64 (0)),(.int .i64 (0))]) (T 38) (T 39)) 37 true,so 41 (.pick (T 37) (T 40) (.const (.bool false))),sm 4 41])
 .ret))))))
theorem Zgb:Zam Tryz.prog 42 (Tryz.f4.body.getD .skip)=ZcP:=by kernel_rfl
theorem Zgc:Zaf Tryz.prog Tryz.f4=some [.tmp 4]:=by kernel_rfl
def Zcu:SCode :=
 (.seq (.reg [so 4 (.mv (.const (.slice none 0 0))),so 5 (.alloc [(.string ⟨#[]⟩),(.int .i64 (0)),(.int .i64 (0))])])
 (.seq (.seq (.reg [sm 9 1,so 10 (.bin .lss (T 9) (C 0)),sm 11 10,sg 12 (.mv (T 1)) 11 false,sg 13 (.bin .gtr (T 12) (C 16777216)) 11 false,so 14 (.pick (T 11) (.const (.bool true)) (T 13))])
 (.cond (T 14)
 (.seq (.reg [so 15 (.build [(.string ⟨#[]⟩),(.int .i64 (0)),(.int .i64 (0))] [(2,1,(C 1))]),so 4 (.mv (.const (.slice none 0 0))),sn (.store (some 3) (T 5) (T 15))])
 .ret)
 .skip))
 (.seq (.reg [so 6 (.mv (.const (.slice none 0 0)))])
 (.seq (.reg [so 7 (.mv (C 0))])
 (.seq (.block 0
 (.loop
 (.seq (.seq (.reg [sm 16 7,sm 17 0,so 18 (.len false (T 17)),so 19 (.bin .lss (T 16) (T 18)),sm 20 19,sg 21 (.mv (T 6)) 20 false,sg 22 (.len false (T 21)) 20 false,sg 23 (.bin .eql (T 22) (C 0)) 20 false,so 24 (.pick (T 20) (.const (.bool true)) (T 23))])
 (.cond (T 24)
 .skip
 (.exit 0)))
 (.block 1
 (.seq (.reg [sm 25 0,sm 26 7,sm 27 1,so 28 (.call true Zes [(T 25),(T 26),(T 27)]),so 8 (.alloc [(.string ⟨#[]⟩),(.int .i64 (0)),(.slice none 0 0),(.int .i64 (0)),(.int .i64 (0))]),sn (.store (some 5) (T 8) (T 28))])
 (.seq (.seq (.reg [so 29 (.faddr 4 (T 8)),so 30 (.load none (T 29)),so 31 (.bin .neq (T 30) (C 0))])
 (.cond (T 31)
 (.seq (.reg [sm 32 7,so 33 (.faddr 4 (T 8)),so 34 (.load none (T 33)),so 35 (.build [(.string ⟨#[]⟩),(.int .i64 (0)),(.int .i64 (0))] [(1,1,(T 32)),(2,1,(T 34))]),so 4 (.mv (.const (.slice none 0 0))),sn (.store (some 3) (T 5) (T 35))])
 .ret)
 .skip))
 (.seq (.reg [sm 36 6,so 37 (.faddr 0 (T 8)),so 38 (.load (some 3) (T 37)),so 39 (.bslice (some 3) [(T 38)]),so 40 (.app (some 3) 48 (T 36) (T 39)),sm 6 40])
 (.seq (.reg [sm 41 1,so 42 (.faddr 0 (T 8)),so 43 (.faddr 2 (T 42)),so 44 (.load none (T 43)),so 45 (.len false (T 44)),so 46 (.bin .sub (T 41) (T 45)),sm 1 46])
 (.reg [so 47 (.faddr 3 (T 8)),so 48 (.load none (T 47)),sm 7 48])))))))))
 (.seq (.reg [sm 49 6,so 50 (.build [(.string ⟨#[]⟩),(.int .i64 (0)),(.int .i64 (0))] []),sm 4 49,sn (.store (some 3) (T 5) (T 50))])
 .ret))))))
theorem ZeD:Zam Tryz.prog 51 (Tryz.f11.body.getD .skip)=Zcu:=by kernel_rfl
theorem ZeE:Zaf Tryz.prog Tryz.f11=some [.tmp 4,.cell 5 (some 3)]:=by kernel_rfl
def Zdn:SCode :=
 (.seq (.reg [so 4 (.mv (.const (.bool false)))])
 (.seq (.seq (.reg [sm 6 0,so 7 (.len false (T 6)),sm 8 1,so 9 (.len false (T 8)),so 10 (.bin .neq (T 7) (T 9))])
 (.cond (T 10)
 (.seq (.reg [so 4 (.mv (.const (.bool false)))])
 .ret)
 .skip))
 (.seq (.seq (.reg [so 5 (.mv (C 0))])
 (.block 0
 (.loop
 (.seq (.seq (.reg [sm 11 5,sm 12 0,so 13 (.len false (T 12)),so 14 (.bin .lss (T 11) (T 13))])
 (.cond (T 14)
 .skip
 (.exit 0)))
 (.seq (.block 1
 (.seq (.reg [sm 17 0,sm 18 5,so 19 (.iaddr (some 3) (T 17) (T 18)),so 20 (.faddr 0 (T 19)),so 21 (.load none (T 20)),sm 22 1,sm 23 5,so 24 (.iaddr (some 3) (T 22) (T 23)),so 25 (.faddr 0 (T 24)),so 26 (.load none (T 25)),so 27 (.bin .neq (T 21) (T 26)),sm 28 27,sg 29 (.mv (T 0)) 28 false,sg 30 (.mv (T 5)) 28 false,sg 31 (.iaddr (some 3) (T 29) (T 30)) 28 false,sg 32 (.faddr 1 (T 31)) 28 false,sg 33 (.load none (T 32)) 28 false,sg 34 (.mv (T 1)) 28 false,sg 35 (.mv (T 5)) 28 false,sg 36 (.iaddr (some 3) (T 34) (T 35)) 28 false,sg 37 (.faddr 1 (T 36)) 28 false,sg 38 (.load none (T 37)) 28 false,sg 39 (.bin .neq (T 33) (T 38)) 28 false,so 40 (.pick (T 28) (.const (.bool true)) (T 39)),sm 41 40,sg 42 (.mv (T 0)) 41 false,sg 43 (.mv (T 5)) 41 false,sg 44 (.iaddr (some 3) (T 42) (T 43)) 41 false,sg 45 (.faddr 2 (T 44)) 41 false,sg 46 (.load none (T 45)) 41 false,sg 47 (.b2s (T 46)) 41 false,sg 48 (.mv (T 1)) 41 false,sg 49 (.mv (T 5)) 41 false,sg 50 (.iaddr (some 3) (T 48) (T 49)) 41 false,sg 51 (.faddr 2 (T 50)) 41 false,sg 52 (.load none (T 51)) 41 false,sg 53 (.b2s (T 52)) 41 false,sg 54 (.bin .neq (T 47) (T 53)) 41 false,so 55 (.pick (T 41) (.const (.bool true)) (T 54))])
 (.cond (T 55)
 (.seq (.reg [so 4 (.mv (.const (.bool false)))])
 .ret)
 .skip)))
 (.reg [sm 15 5,so 16 (.bin .add (T 15) (C 1)),sm 5 16]))))))
 (.seq (.reg [so 4 (.mv (.const (.bool true)))])
 .ret))))
theorem ZfW:Zam Tryz.prog 56 (Tryz.f12.body.getD .skip)=Zdn:=by kernel_rfl
theorem ZfX:Zaf Tryz.prog Tryz.f12=some [.tmp 4]:=by kernel_rfl
def Zek:SCode :=
 (.seq (.reg [so 4 (.mv (.const (.slice none 0 0)))])
 (.seq (.reg [sm 5 0,sm 6 1,so 7 (.call true ZgR [(T 5),(T 6)]),so 8 (.call true Zby [(T 7)]),sm 4 8])
 .ret))
theorem Zg6:Zam Tryz.prog 9 (Tryz.f66.body.getD .skip)=Zek:=by kernel_rfl
theorem Zg7:Zaf Tryz.prog Tryz.f66=some [.tmp 4]:=by kernel_rfl
def ZeF:SCode :=
 (.seq (.reg [so 6 (.alloc [(.string ⟨#[]⟩),(.int .i64 (0)),(.slice none 0 0),(.int .i64 (0)),(.int .i64 (0))])])
 (.seq (.seq (.reg [sm 20 0,so 21 (.len false (T 20)),sm 22 1,so 23 (.bin .sub (T 21) (T 22)),so 24 (.bin .lss (T 23) (C 10))])
 (.cond (T 24)
 (.seq (.reg [so 25 (.build [(.string ⟨#[]⟩),(.int .i64 (0)),(.slice none 0 0),(.int .i64 (0)),(.int .i64 (0))] [(4,1,(C 2))]),sn (.store (some 5) (T 6) (T 25))])
 .ret)
 .skip))
 (.seq (.seq (.reg [sm 26 0,sm 27 1,so 28 (.iaddr none (T 26) (T 27)),so 29 (.load none (T 28)),so 30 (.bin .neq (T 29) (.const (.int .u8 (31)))),sm 31 30,sg 32 (.mv (T 0)) 31 false,sg 33 (.mv (T 1)) 31 false,sg 34 (.bin .add (T 33) (C 1)) 31 false,sg 35 (.iaddr none (T 32) (T 34)) 31 false,sg 36 (.load none (T 35)) 31 false,sg 37 (.bin .neq (T 36) (.const (.int .u8 (139)))) 31 false,so 38 (.pick (T 31) (.const (.bool true)) (T 37))])
 (.cond (T 38)
 (.seq (.reg [so 39 (.build [(.string ⟨#[]⟩),(.int .i64 (0)),(.slice none 0 0),(.int .i64 (0)),(.int .i64 (0))] [(4,1,(C 3))]),sn (.store (some 5) (T 6) (T 39))])
 .ret)
 .skip))
 (.seq (.seq (.reg [sm 40 0,sm 41 1,so 42 (.bin .add (T 41) (C 2)),so 43 (.iaddr none (T 40) (T 42)),so 44 (.load none (T 43)),so 45 (.bin .neq (T 44) (.const (.int .u8 (8))))])
 (.cond (T 45)
 (.seq (.reg [so 46 (.build [(.string ⟨#[]⟩),(.int .i64 (0)),(.slice none 0 0),(.int .i64 (0)),(.int .i64 (0))] [(4,1,(C 14))]),sn (.store (some 5) (T 6) (T 46))])
 .ret)
 .skip))
 (.seq (.reg [sm 47 0,sm 48 1,so 49 (.bin .add (T 48) (C 3)),so 50 (.iaddr none (T 47) (T 49)),so 51 (.load none (T 50)),so 52 (.ci .i64 (T 51)),sm 7 52])
 (.seq (.seq (.reg [sm 53 7,so 54 (.bin .gtr (T 53) (C 31))])
 (.cond (T 54)
 (.seq (.reg [so 55 (.build [(.string ⟨#[]⟩),(.int .i64 (0)),(.slice none 0 0),(.int .i64 (0)),(.int .i64 (0))] [(4,1,(C 3))]),sn (.store (some 5) (T 6) (T 55))])
 .ret)
 .skip))
 (.seq (.reg [so 56 (.build [(.string ⟨#[]⟩),(.int .i64 (0)),(.slice none 0 0)] []),so 8 (.alloc [(.string ⟨#[]⟩),(.int .i64 (0)),(.slice none 0 0)]),sn (.store (some 3) (T 8) (T 56))])
 (.seq (.reg [sm 58 0,sm 59 1,so 60 (.bin .add (T 59) (C 4)),so 61 (.call true ZbD [(T 58),(T 60),(C 4)]),sm 57 61,so 62 (.ext (T 57) 0),so 63 (.ext (T 57) 1),sm 9 62,sm 10 63])
 (.seq (.reg [sm 64 9,so 65 (.ci .i64 (T 64)),so 66 (.faddr 1 (T 8)),sn (.store none (T 66) (T 65))])
 (.seq (.reg [sm 67 1,so 68 (.bin .add (T 67) (C 10)),sm 11 68])
 (.seq (.seq (.reg [sm 69 7,so 70 (.bin .quo (T 69) (C 4)),so 71 (.bin .rem (T 70) (C 2)),so 72 (.bin .eql (T 71) (C 1))])
 (.cond (T 72)
 (.seq (.reg [sm 74 0,sm 75 11,so 76 (.call true ZbD [(T 74),(T 75),(C 2)]),sm 73 76,so 77 (.ext (T 73) 0),so 78 (.ext (T 73) 1),sm 12 77,sm 13 78])
 (.seq (.seq (.reg [sm 79 13,so 80 (.un .not (T 79)),sm 81 80,sg 82 (.mv (T 12)) 81 false,sg 83 (.ci .i64 (T 82)) 81 false,sg 84 (.mv (T 0)) 81 false,sg 85 (.len false (T 84)) 81 false,sg 86 (.mv (T 11)) 81 false,sg 87 (.bin .sub (T 85) (T 86)) 81 false,sg 88 (.bin .sub (T 87) (C 2)) 81 false,sg 89 (.bin .gtr (T 83) (T 88)) 81 false,so 90 (.pick (T 81) (.const (.bool true)) (T 89))])
 (.cond (T 90)
 (.seq (.reg [so 91 (.build [(.string ⟨#[]⟩),(.int .i64 (0)),(.slice none 0 0),(.int .i64 (0)),(.int .i64 (0))] [(4,1,(C 2))]),sn (.store (some 5) (T 6) (T 91))])
 .ret)
 .skip))
 (.reg [sm 92 11,so 93 (.bin .add (T 92) (C 2)),sm 94 12,so 95 (.ci .i64 (T 94)),so 96 (.bin .add (T 93) (T 95)),sm 11 96])))
 .skip))
 (.seq (.seq (.reg [sm 97 7,so 98 (.bin .quo (T 97) (C 8)),so 99 (.bin .rem (T 98) (C 2)),so 100 (.bin .eql (T 99) (C 1))])
 (.cond (T 100)
 (.seq (.reg [sm 101 0,sm 102 11,so 103 (.call true Zdg [(T 101),(T 102)]),sm 14 103])
 (.seq (.seq (.reg [sm 104 14,so 105 (.bin .lss (T 104) (C 0))])
 (.cond (T 105)
 (.seq (.reg [so 106 (.build [(.string ⟨#[]⟩),(.int .i64 (0)),(.slice none 0 0),(.int .i64 (0)),(.int .i64 (0))] [(4,1,(C 2))]),sn (.store (some 5) (T 6) (T 106))])
 .ret)
 .skip))
 (.seq (.reg [sm 107 0,sm 108 11,sm 109 14,so 110 (.sl none (T 107) (some (T 108)) (some (T 109))),so 111 (.b2s (T 110)),so 112 (.faddr 0 (T 8)),sn (.store none (T 112) (T 111))])
 (.seq (.seq (.reg [so 113 (.faddr 0 (T 8)),so 114 (.load none (T 113)),so 115 (.len true (T 114)),so 116 (.bin .gtr (T 115) (C 200))])
 (.cond (T 116)
 (.seq (.reg [so 117 (.build [(.string ⟨#[]⟩),(.int .i64 (0)),(.slice none 0 0),(.int .i64 (0)),(.int .i64 (0))] [(4,1,(C 10))]),sn (.store (some 5) (T 6) (T 117))])
 .ret)
 .skip))
 (.reg [sm 118 14,so 119 (.bin .add (T 118) (C 1)),sm 11 119])))))
 .skip))
 (.seq (.seq (.reg [sm 120 7,so 121 (.bin .quo (T 120) (C 16)),so 122 (.bin .rem (T 121) (C 2)),so 123 (.bin .eql (T 122) (C 1))])
 (.cond (T 123)
 (.seq (.reg [sm 124 0,sm 125 11,so 126 (.call true Zdg [(T 124),(T 125)]),sm 15 126])
 (.seq (.seq (.reg [sm 127 15,so 128 (.bin .lss (T 127) (C 0))])
 (.cond (T 128)
 (.seq (.reg [so 129 (.build [(.string ⟨#[]⟩),(.int .i64 (0)),(.slice none 0 0),(.int .i64 (0)),(.int .i64 (0))] [(4,1,(C 2))]),sn (.store (some 5) (T 6) (T 129))])
 .ret)
 .skip))
 (.reg [sm 130 15,so 131 (.bin .add (T 130) (C 1)),sm 11 131])))
 .skip))
 (.seq (.seq (.reg [sm 132 7,so 133 (.bin .quo (T 132) (C 2)),so 134 (.bin .rem (T 133) (C 2)),so 135 (.bin .eql (T 134) (C 1))])
 (.cond (T 135)
 (.seq (.reg [sm 137 0,sm 138 11,so 139 (.call true ZbD [(T 137),(T 138),(C 2)]),sm 136 139,so 140 (.ext (T 136) 0),so 141 (.ext (T 136) 1),sm 16 140,sm 17 141])
 (.seq (.seq (.reg [sm 142 17,so 143 (.un .not (T 142))])
 (.cond (T 143)
 (.seq (.reg [so 144 (.build [(.string ⟨#[]⟩),(.int .i64 (0)),(.slice none 0 0),(.int .i64 (0)),(.int .i64 (0))] [(4,1,(C 2))]),sn (.store (some 5) (T 6) (T 144))])
 .ret)
 .skip))
 (.seq (.seq (.reg [sm 145 0,sm 146 1,sm 147 11,so 148 (.sl none (T 145) (some (T 146)) (some (T 147))),so 149 (.call true ZdF [(T 148)]),so 150 (.bin .rem (T 149) (.const (.int .u32 (65536)))),sm 151 16,so 152 (.ci .u32 (T 151)),so 153 (.bin .neq (T 150) (T 152))])
 (.cond (T 153)
 (.seq (.reg [so 154 (.build [(.string ⟨#[]⟩),(.int .i64 (0)),(.slice none 0 0),(.int .i64 (0)),(.int .i64 (0))] [(4,1,(C 5))]),sn (.store (some 5) (T 6) (T 154))])
 .ret)
 .skip))
 (.reg [sm 155 11,so 156 (.bin .add (T 155) (C 2)),sm 11 156]))))
 .skip))
 (.seq (.reg [sm 157 0,sm 158 11,so 159 (.sl none (T 157) (some (T 158)) none),sm 160 2,so 161 (.call true Zd6 [(T 159),(T 160)]),so 18 (.alloc [(.slice none 0 0),(.int .i64 (0)),(.int .i64 (0))]),sn (.store (some 3) (T 18) (T 161))])
 (.seq (.seq (.reg [so 162 (.faddr 2 (T 18)),so 163 (.load none (T 162)),so 164 (.bin .neq (T 163) (C 0))])
 (.cond (T 164)
 (.seq (.reg [so 165 (.faddr 2 (T 18)),so 166 (.load none (T 165)),so 167 (.build [(.string ⟨#[]⟩),(.int .i64 (0)),(.slice none 0 0),(.int .i64 (0)),(.int .i64 (0))] [(4,1,(T 166))]),sn (.store (some 5) (T 6) (T 167))])
 .ret)
 .skip))
 (.seq (.reg [sm 168 11,so 169 (.faddr 1 (T 18)),so 170 (.load none (T 169)),so 171 (.bin .add (T 168) (T 170)),sm 11 171])
 (.seq (.seq (.reg [sm 172 0,so 173 (.len false (T 172)),sm 174 11,so 175 (.bin .sub (T 173) (T 174)),so 176 (.bin .lss (T 175) (C 8))])
 (.cond (T 176)
 (.seq (.reg [so 177 (.build [(.string ⟨#[]⟩),(.int .i64 (0)),(.slice none 0 0),(.int .i64 (0)),(.int .i64 (0))] [(4,1,(C 2))]),sn (.store (some 5) (T 6) (T 177))])
 .ret)
 .skip))
 (.seq (.reg4 [so 178 (.faddr 0 (T 18)),so 179 (.load none (T 178)),so 180 (.call false ZdF [(T 179)]),so 181 (.ci .u64 (T 180))]
 [so 182 (.call true ZcD [(T 181),(C 4)]),so 183 (.faddr 0 (T 18)),so 184 (.load none (T 183))]
 (none,(T 183),184)
 [so 185 (.len false (T 184)),so 186 (.ci .u64 (T 185)),so 187 (.call true ZcD [(T 186),(C 4)]),so 188 (.app none 1 (T 182) (T 187)),sm 19 188])
 (.seq (.seq (.reg [sm 189 19,so 190 (.b2s (T 189)),sm 191 0,sm 192 11,sm 193 11,so 194 (.bin .add (T 193) (C 8)),so 195 (.sl none (T 191) (some (T 192)) (some (T 194))),so 196 (.b2s (T 195)),so 197 (.bin .neq (T 190) (T 196))])
 (.cond (T 197)
 (.seq (.reg [so 198 (.build [(.string ⟨#[]⟩),(.int .i64 (0)),(.slice none 0 0),(.int .i64 (0)),(.int .i64 (0))] [(4,1,(C 5))]),sn (.store (some 5) (T 6) (T 198))])
 .ret)
 .skip))
 (.seq (.reg [so 199 (.faddr 0 (T 18)),so 200 (.load none (T 199)),so 201 (.faddr 2 (T 8)),sn (.store none (T 201) (T 200))])
 (.seq (.reg [so 202 (.load (some 3) (T 8)),sm 203 11,so 204 (.bin .add (T 203) (C 8)),so 205 (.build [(.string ⟨#[]⟩),(.int .i64 (0)),(.slice none 0 0),(.int .i64 (0)),(.int .i64 (0))] [(0,3,(T 202)),(3,1,(T 204))]),sn (.store (some 5) (T 6) (T 205))])
 .ret))))))))))))))))))))))
theorem Zig:Zam Tryz.prog 206 (Tryz.f32.body.getD .skip)=ZeF:=by kernel_rfl
theorem Zih:Zaf Tryz.prog Tryz.f32=some [.cell 6 (some 5)]:=by kernel_rfl
def ZfY:SCode :=
 (.seq (.reg [so 4 (.mv (C 0))])
 (.seq (.seq (.reg [sm 6 1,sm 5 6])
 (.block 0
 (.loop
 (.seq (.seq (.reg [sm 7 5,sm 8 0,so 9 (.len false (T 8)),so 10 (.bin .lss (T 7) (T 9))])
 (.cond (T 10)
 .skip
 (.exit 0)))
 (.seq (.block 1
 (.seq (.reg [sm 13 0,sm 14 5,so 15 (.iaddr none (T 13) (T 14)),so 16 (.load none (T 15)),so 17 (.bin .eql (T 16) (.const (.int .u8 (0))))])
 (.cond (T 17)
 (.seq (.reg [sm 18 5,sm 4 18])
 .ret)
 .skip)))
 (.reg [sm 11 5,so 12 (.bin .add (T 11) (C 1)),sm 5 12]))))))
 (.seq (.reg [so 4 (.mv (C (-1)))])
 .ret)))
theorem ZjA:Zam Tryz.prog 19 (Tryz.f64.body.getD .skip)=ZfY:=by kernel_rfl
theorem ZjB:Zaf Tryz.prog Tryz.f64=some [.tmp 4]:=by kernel_rfl
end Go.Proofs.YtfplkgciebjehabGreatDoor.Aw
namespace Go.Proofs.YtfplkgciebjehabGreatDoor.Aw
open Go
set_option linter.defProp false
set_option maxRecDepth 100000
set_option linter.unusedSimpArgs false
set_option linter.unusedVariables false
set_option linter.defProp false
def nA (n:Nat):AV:=.sc (.int .i64 (n:Int))
theorem ZAN {l:List Nat} {i:Nat} (h:i<l.length):(l.map nA).getD i .junk = .sc (.int .i64 ((l.getD i 0:Nat):Int)):=by
 simp [List.getD,List.getElem?_eq_getElem h,nA]
theorem ZAO {l:List Int} {i:Nat} (h:i<l.length):(l.map int).getD i .junk = .sc (.int .i64 (l.getD i 0)):=by
 simp [List.getD,List.getElem?_eq_getElem h,int]
theorem Zaj {l:List Nat}:AV.free.freeL (l.map nA)=true:=ZcZ.2 fun x hx=>by
 obtain ⟨n,_,rfl⟩:=List.mem_map.1 hx;rfl
theorem ZfZ {l:List Int}:AV.free.freeL (l.map int)=true:=ZcZ.2 fun x hx=>by
 obtain ⟨n,_,rfl⟩:=List.mem_map.1 hx;rfl
theorem ZAP {ρ:Nat→Nat→Nat × Nat} {l:List Nat}:ren.renL ρ (l.map nA)=l.map nA:=Zdz ρ _ Zaj
theorem ZAQ {ρ:Nat→Nat→Nat × Nat} {l:List Int}:ren.renL ρ (l.map int)=l.map int:=Zdz ρ _ ZfZ
theorem Zom {l:List Nat} {n:Nat}:(l.map nA).take n=(l.take n).map nA:=by simp
theorem Zon {l:List Nat} {n:Nat}:(l.map nA).drop n=(l.drop n).map nA:=by simp
theorem ZAR {l:List Int} {n:Nat}:(l.map int).take n=(l.take n).map int:=by simp
theorem ZAS {l:List Int} {n:Nat}:(l.map int).drop n=(l.drop n).map int:=by simp
theorem ZAT {id g:Nat} {nl:Bool} {cells:List AV} {l:List Nat}:fzo.fzoL id g nl cells (l.map nA)=l.map nA:=Zcg _ Zaj
theorem ZAU {id g:Nat} {nl:Bool} {cells:List AV} {l:List Int}:fzo.fzoL id g nl cells (l.map int)=l.map int:=Zcg _ ZfZ
theorem Zwi {hp:Hp}:∀ {l:List Nat},frz.frzL hp (l.map nA)=l.map nA
 | []=>rfl
 | c::l=>by simp only [List.map_cons,frz.frzL,Zwi];rfl
theorem Zzv:∀ {l:List UInt8},AV.fo.foL (l.map u8)=true
 | []=>rfl
 | _::l=>by simp only [List.map_cons,AV.fo.foL,u8,AV.fo,Bool.true_and];exact Zzv
theorem ZeG {l:List Nat} {k x:Nat} (h:k<l.length):(l.take k).map nA++(.sc (.int .i64 (x:Int))::(l.drop (k+1)).map nA)=(l.set k x).map nA:=by
 rw [List.set_eq_take_append_cons_drop,if_pos h]
 simp [nA]
theorem Zwj {st:ASt}:Zhl st [] = .tup []:=rfl
def iR:=And.intro @Zwj <| And.intro (And.intro (And.intro @ZAN @ZAO) (And.intro @Zaj @ZfZ)) (And.intro (And.intro (And.intro @ZAP @ZAQ) (And.intro (And.intro @Zom @Zon) (And.intro @ZAR @ZAS))) (And.intro (And.intro @ZAT @ZAU) @Zwi))
def fR:=And.intro (And.intro (And.intro @ZCA @ZAI) (And.intro @ZyJ @ZCB)) (And.intro (And.intro (And.intro @ZCC @ZAJ) (And.intro @ZAK @Zrg)) (And.intro (And.intro (And.intro @Zzu @ZyK) (And.intro @Zwh @ZAL)) (And.intro @ZAM (And.intro @ZCD @ZCE))))
theorem Zm0 {α:Type} {l:List α} {k:Nat} {d:α} (h:k<l.length):l.take (k+1)=l.take k++[l.getD k d]:=by
 rw [List.take_succ_eq_append_getElem h];simp [List.getD,List.getElem?_eq_getElem h]
theorem Zcv {x:Int} (h1:0≤x) (h2:x<18446744073709551616):IntKind.u64.wrap x=x:=by
 simp only [IntKind.wrap,IntKind.bits,IntKind.signed]
 simp
 omega
theorem ZaI {n m:Nat} (h:n≤m):2^n≤2^m:=Nat.pow_le_pow_right zO h
end Go.Proofs.YtfplkgciebjehabGreatDoor.Aw
namespace Go.Proofs.YtfplkgciebjehabGreatDoor.Aw
open Go
set_option linter.defProp false
set_option maxRecDepth 100000
set_option linter.unusedSimpArgs false
set_option linter.unusedVariables false
theorem Zkg [Tabs Tryz.prog] (nl:Bool) (l:List UInt8) (hl:l.length≤1000000) (hn:nl=true→l=[]):Con Tryz.prog ZdD [.sl nl none (l.map u8)] (.sl nl none (l.map u8)):=by
 refine Con.of' mix Tryz.func42 rfl Tryz.ntmps42 Zj5 Zj6 zB (by simp only [AV.free,AV.free.freeL,Zag,Bool.and_self]) (by simp only [AV.free,Zag]) ?_
 unfold Zhq
 cases nl with
 | true =>
  obtain rfl:=hn rfl
  iterate 8 (first|refine zS ?_|exact zT)
  refine SWp.adopt 2 none yT ?_
  repeat (first|refine zS ?_|exact zT)
 | false =>
  repeat (first|refine zS ?_|exact zT)
theorem Zoo [Tabs Tryz.prog] (nl:Bool) (l:List UInt8) (hl:l.length≤1000000) (hn:nl=true→l=[]):HCon Tryz.prog ZdD [.sl nl none (l.map u8)] [] (.own 5 2 none 0 l.length) [(5,2,.row nl (l.map u8))] 3:=by
 refine HCon.of' mix Tryz.func42 rfl Tryz.ntmps42 Zj5 Zj6 zB (by simp only [AV.gl.glL,AV.gl,and_true];exact Zan _ _ Zag) zB ?_
 unfold Zhq
 cases nl with
 | true =>
  obtain rfl:=hn rfl
  iterate 8 (first|refine zS ?_|exact zT)
  refine SWp.adopt 2 none yT ?_
  refine SWp.le (Zal (N:=8) (gc:=2) (l:=[(2,.own 2 1 none 0 0)]) (h:=[(2,1,.row true [])]) rfl ?_ ?_ ?_) ?_
  iterate 3 (case _=>(first|exact yT|refine yS ?_))
  refine SWp.swap 2 5 (yU (ja2 @Zd3.eq_1 @Zd3.eq_2)) (yU (ja2 @Zd3.eq_1 @Zd3.eq_2)) ?_
  refine SWp.le (Zal (N:=8) (gc:=2) (l:=[(2,.own 5 1 none 0 0)]) (h:=[(5,1,.row true [])]) rfl ?_ ?_ ?_) ?_
  iterate 3 (case _=>(first|exact yU (ja3 @Zli @sw.eq_1 @swH.eq_1)|refine yR (ja3 @Zli @sw.eq_1 @swH.eq_1) ?_))
  refine SWp.renew 5 1 (o:=.row true []) yT ?_
  refine SWp.le (Zal (N:=8) (gc:=3) (l:=[(2,.own 5 2 none 0 0)]) (h:=[(5,2,.row true [])]) rfl ?_ ?_ ?_) ?_
  iterate 3 (case _=>(first|exact yU (ja2 @ZbN @ZbO)|refine yR (ja2 @ZbN @ZbO) ?_))
  repeat (first|refine zS ?_|exact zT)
 | false =>
  repeat (first|refine zS ?_|exact zT)
def Zc8 (c:UInt8):List Nat:=(List.range 8).map fun k=>c.toNat / 2^k % 2
def Zae (l:List UInt8):List Nat:=l.flatMap Zc8
def Zkh (l:List UInt8) (i:Nat):Nat:=(l.getD (i / 8) 0).toNat / 2^(i % 8) % 2
theorem ZaM {c:UInt8}:(Zc8 c).length=8:=by simp [Zc8]
theorem Zad:∀ {l:List UInt8},(Zae l).length=8*l.length
 | []=>rfl
 | c::l=>by show (Zc8 c++Zae l).length=_;rw [List.length_append,ZaM,Zad,List.length_cons];omega
theorem ZbP {l m:List UInt8}:Zae (l++m)=Zae l++Zae m:=by simp [Zae]
theorem Zul {l:List UInt8} {k:Nat} (h:k<l.length):Zae (l.take (k+1))=Zae (l.take k)++Zc8 (l.getD k 0):=by
 rw [Zm0 (d:=0) h,ZbP];simp [Zae]
theorem ZpF {c:UInt8} {k:Nat} (h:k<8):(Zc8 c).getD k 0=c.toNat / 2^k % 2:=by
 simp [Zc8,List.getD,h]
theorem Zum {c:UInt8} {k:Nat} (h:k<8):(Zc8 c).take (k+1)=(Zc8 c).take k++[c.toNat / 2^k % 2]:=by
 rw [Zm0 (d:=0) (by rw [ZaM];exact h),ZpF h]
theorem Zmz:∀ {l:List UInt8} {i:Nat},i<8*l.length→(Zae l).getD i 0=Zkh l i
 | [],i,h=>by simp at h
 | c::l,i,h=>by
  show (Zc8 c++Zae l).getD i 0=_
  by_cases hi:i<8
  ·have e1:i / 8=0:=zO
   have e2:i % 8=i:=zO
   have:(Zc8 c++Zae l).getD i 0=(Zc8 c).getD i 0:=by
    simp only [List.getD];rw [List.getElem?_append_left (by rw [ZaM];exact hi)]
   rw [this,ZpF hi,Zkh,e1,e2];rfl
  ·have e1:i / 8=(i-8) / 8+1:=zO
   have e2:i % 8=(i-8) % 8:=zO
   have:(Zc8 c++Zae l).getD i 0=(Zae l).getD (i-8) 0:=by
    simp only [List.getD];rw [List.getElem?_append_right (by rw [ZaM];omega),ZaM]
   rw [this,Zmz (by simp only [List.length_cons] at h;omega),Zkh,Zkh,e1,e2];rfl
theorem Zop {l:List UInt8} {i:Nat}:Zkh l i<2:=Nat.mod_lt _ zO
def Zfi:List Nat→Nat
 | []=>0
 | x::r=>x+2*Zfi r
theorem Zhx {a b:List Nat}:Zfi (a++b)=Zfi a+2^a.length*Zfi b:=by
 induction a with
 | nil=>simp [Zfi]
 | cons x a ih=>simp only [List.cons_append,Zfi,ih,List.length_cons,Nat.pow_succ,Nat.mul_add];rw [Nat.mul_comm (2^a.length) 2,Nat.mul_assoc];omega
theorem ZmA {l:List Nat} (h:∀ x∈l,x<2):Zfi l<2^l.length:=by
 induction l with
 | nil=>simp [Zfi]
 | cons x l ih =>
  have h1:=h x zB
  have h2:=ih fun y hy=>h y (by simp [hy])
  simp only [Zfi,List.length_cons,Nat.pow_succ];omega
theorem Zdc {l:List UInt8}:∀ x∈Zae l,x<2:=by
 intro x hx
 simp only [Zae,Zc8,List.mem_flatMap,List.mem_map] at hx
 obtain ⟨_,_,_,_,rfl⟩:=hx
 exact Nat.mod_lt _ zO
def rdR (nl:Bool) (b:List UInt8) (i:Nat):List AV:=[.sl nl none (b.map u8),.sc (.int .i64 (i:Int))]
theorem Zcw {nl:Bool} {b:List UInt8} {i:Nat}:∀ n cells,AO.row n cells∈[AO.row false (rdR nl b i)]→AV.gl.glL 1 cells:=by
 intro n cells h
 simp only [List.mem_singleton,AO.row.injEq] at h
 obtain ⟨-,rfl⟩:=h
 simp only [rdR,AV.gl.glL,AV.gl,and_true]
 exact Zan _ _ Zag
theorem ZhQ [Tabs Tryz.prog] (nl:Bool) (b:List UInt8) (hl:b.length≤1000000) (hn:nl=true→b=[]) :
  HCon Tryz.prog ZhG [.sl nl none (b.map u8)] [] (.op 6 1 0) [(6,1,.row false (rdR nl b 0))] 2:=by
 refine HCon.of' mix Tryz.func19 rfl Tryz.ntmps19 Zly Zlz zB (by simp only [AV.gl.glL,AV.gl,and_true];exact Zan _ _ Zag) zB ?_
 unfold ZhL
 repeat (first|refine zS ?_|exact zT)
 refine Zaq _ (.inl ⟨by simp only [AV.free,AV.free.freeL,Zag,Bool.and_self],Zkg nl b hl hn⟩) ?_
 repeat (first|refine zR @rdR.eq_1 ?_|exact zU @rdR.eq_1)
theorem ZpG [Tabs Tryz.prog] (nl:Bool) (b:List UInt8) (i:Nat) :
  HCon Tryz.prog ZhI [.op 1000 0 0] [.row false (rdR nl b i)] (int (i:Int)) [(1000,0,.row false (rdR nl b i))] 1:=by
 refine HCon.of' mix Tryz.func21 rfl Tryz.ntmps21 ZlA ZlB zB (by simp [AV.gl,AV.gl.glL]) Zcw ?_
 unfold ZhM
 repeat (first|refine zR @rdR.eq_1 ?_|exact zU @rdR.eq_1)
theorem Zf0 [Tabs Tryz.prog] (nl:Bool) (b:List UInt8) (hl:b.length≤1000000) (i:Nat) (hi:i≤8*b.length) :
  HCon Tryz.prog Zb7 [.op 1000 0 0] [.row false (rdR nl b i)] (int ((8*b.length-i:Nat):Int)) [(1000,0,.row false (rdR nl b i))] 1:=by
 refine HCon.of' mix Tryz.func84 rfl Tryz.ntmps84 Zj8 Zj9 zB (by simp [AV.gl,AV.gl.glL]) Zcw ?_
 unfold Zgs
 have e:(b.length:Int)*8-(i:Int)=((8*b.length-i:Nat):Int):=zO
 repeat (first|refine zR (ja2 @rdR.eq_1 @e) ?_|exact zU (ja2 @rdR.eq_1 @e))
theorem ZnC [Tabs Tryz.prog] (nl:Bool) (b:List UInt8) (hl:b.length≤1000000) (i:Nat) (hi:i<8*b.length) :
  HCon Tryz.prog Zei [.op 1000 0 0] [.row false (rdR nl b i)] (.sc (.int .i64 ((Zkh b i:Nat):Int))) [(1000,0,.row false (rdR nl b (i+1)))] 1:=by
 refine HCon.of' mix Tryz.func85 rfl Tryz.ntmps85 ZkO ZkP zB (by simp [AV.gl,AV.gl.glL]) Zcw ?_
 unfold Zg0
 have h8:i / 8<b.length:=zO
 have hm:i % 8<64:=zO
 obtain ⟨c,hc⟩:∃ c,c=b.getD (i / 8) 0:=⟨_,rfl⟩
 obtain ⟨x,hx⟩:∃ x,x=c.toNat / 2^(i % 8):=⟨_,rfl⟩
 have hb:Zkh b i=x % 2:=by rw [Zkh,←hc,←hx]
 have hcl:=c.toNat_lt
 have hxl:x<256:=by rw [hx];exact Nat.lt_of_le_of_lt (Nat.div_le_self _ _) hcl
 repeat (first|refine zR (ja4 @rdR.eq_1 hc.symm hx.symm @hb) ?_|exact zU (ja4 @rdR.eq_1 hc.symm hx.symm @hb))
def ZCF (len i:Nat) (n:Int):Bool:=decide (0≤n∧n≤24∧n≤((8*len-i:Nat):Int))
def ZaG (b:List UInt8) (i n:Nat):Nat:=Zfi ((List.range n).map fun k=>Zkh b (i+k))
theorem Zk0 {b:List UInt8} {i n:Nat}:ZaG b i (n+1)=ZaG b i n+2^n*Zkh b (i+n):=by
 unfold ZaG;rw [List.range_succ,List.map_append,Zhx];simp [Zfi]
theorem Zen {b:List UInt8} {i n:Nat}:ZaG b i n<2^n:=by
 have:=ZmA (l:=(List.range n).map fun k=>Zkh b (i+k)) (by intro x hx;obtain ⟨k,_,rfl⟩:=List.mem_map.1 hx;exact Zop)
 simpa [ZaG] using this
theorem Zdw [Tabs Tryz.prog] (nl:Bool) (b:List UInt8) (hl:b.length≤1000000) (i:Nat) (hi:i≤8*b.length) (n:Int) (hn:ZCF b.length i n=false) :
  HCon Tryz.prog ZaS [.op 1000 0 0,int n] [.row false (rdR nl b i)] (.tup [int 0,boo false]) [(1000,0,.row false (rdR nl b i))] 30:=by
 refine HCon.of' mix Tryz.func43 rfl Tryz.ntmps43 Zgq Zgr zB (by simp [AV.gl,AV.gl.glL,int]) Zcw ?_
 unfold ZdW
 have hn':=of_decide_eq_false hn
 by_cases c1:n<0
 ·have d1:=decide_eq_true c1
  repeat (first|refine zR @d1 ?_|exact zU @d1)
 have d1:=decide_eq_false c1
 by_cases c2:24<n
 ·have d2:=decide_eq_true c2
  repeat (first|refine zR (ja2 @d1 @d2) ?_|exact zU (ja2 @d1 @d2))
 have d2:=decide_eq_false c2
 have d3:decide (((8*b.length-i:Nat):Int)<n)=true:=decide_eq_true zO
 repeat (first|refine zR (ja2 @d1 @d2) ?_|exact zU (ja2 @d1 @d2))
 refine Zab [(1000,0)] 2000 (Zf0 nl b hl i hi) zB zB ?_ ?_ ?_
 iterate 2 (case _=>(first|exact yU @rdR.eq_1|refine yR @rdR.eq_1 ?_))
 repeat (first|refine zR (ja3 @d3 @rdR.eq_1 iR) ?_|exact zU (ja3 @d3 @rdR.eq_1 iR))
theorem Zdo [Tabs Tryz.prog] (nl:Bool) (b:List UInt8) (hl:b.length≤1000000) (i:Nat) (hi:i≤8*b.length) (n:Nat) (hn:n≤24) (hn2:i+n≤8*b.length) :
  HCon Tryz.prog ZaS [.op 1000 0 0,int (n:Int)] [.row false (rdR nl b i)] (.tup [int (ZaG b i n:Nat),boo true]) [(1000,0,.row false (rdR nl b (i+n)))] 30:=by
 refine HCon.of' mix Tryz.func43 rfl Tryz.ntmps43 Zgq Zgr zB (by simp [AV.gl,AV.gl.glL,int]) Zcw ?_
 unfold ZdW
 have d1:decide ((n:Int)<0)=false:=decide_eq_false zO
 have d2:decide (24<(n:Int))=false:=decide_eq_false zO
 have d3:decide (((8*b.length-i:Nat):Int)<(n:Int))=false:=decide_eq_false zO
 repeat (first|refine zR (ja2 @d1 @d2) ?_|exact zU (ja2 @d1 @d2))
 refine Zab [(1000,0)] 2000 (Zf0 nl b hl i hi) zB zB ?_ ?_ ?_
 iterate 2 (case _=>(first|exact yU @rdR.eq_1|refine yR @rdR.eq_1 ?_))
 repeat (first|refine zR (ja2 @d3 @rdR.eq_1) ?_|exact zU (ja2 @d3 @rdR.eq_1))
 refine SWp.loop (α:=Nat) (fun k=>mk 32 (2+k) [(0,.op 1000 0 0),(1,int n),(6,int (ZaG b i k:Nat)),(20,int n),(21,int k)] [(1000,0,.row false (rdR nl b (i+k)))])
  (fun k=>k≤n) (fun k=>n-k) 0 (Nat.zero_le _) (Zal rfl ?_ ?_ ?_) ?_
 ·simp only;omega
 iterate 2 (case _=>(first|exact yU (ja5 @ZaG.eq_1 @List.range_zero @Zfi.eq_1 @Zfi.eq_2 @rdR.eq_1)|refine yR (ja5 @ZaG.eq_1 @List.range_zero @Zfi.eq_1 @Zfi.eq_2 @rdR.eq_1) ?_))
 rintro k hk -
 repeat (first|refine zS ?_|exact zT)
 refine SWp.cond rfl (fun h=>?_) (fun h=>?_)
 ·simp only [decide_eq_true_eq] at h
  have hkn:k<n:=zO
  have hs:=Zk0 (b:=b) (i:=i) (n:=k)
  have hlt:=Zen (b:=b) (i:=i) (n:=k)
  have hbl:=Zop (l:=b) (i:=i+k)
  have hp:2^k≤8388608:=ZaI (show k≤23 by omega)
  obtain ⟨x,hx⟩:∃ x,x=Zkh b (i+k):=⟨_,rfl⟩
  obtain ⟨y,hy⟩:∃ y,y=ZaG b i k:=⟨_,rfl⟩
  have hbit:=ZnC nl b hl (i+k) zO
  rw [←hx] at hbit hs hbl
  rw [←hy] at hs hlt
  rw [←hy]
  obtain ⟨z,hz⟩:∃ z,z=x*2^k:=⟨_,rfl⟩
  have hor:y|||z=ZaG b i (k+1):=by
   rw [hs,hz,Nat.mul_comm,Nat.or_comm,←Nat.two_pow_add_eq_or_of_lt hlt,Nat.add_comm]
  have hzl:z≤8388608:=by
   obtain rfl | rfl:x=0∨x=1:=zO
   ·omega
   ·omega
  have hyl:y<8388608:=zO
  repeat (first|refine zR @rdR.eq_1 ?_|exact zU @rdR.eq_1)
  refine Zab [(1000,0)] 2000 hbit zB zB ?_ ?_ ?_
  iterate 2 (case _=>(first|exact yU @rdR.eq_1|refine yR @rdR.eq_1 ?_))
  repeat (first|refine zR (ja3 @rdR.eq_1 hz.symm @hor) ?_|exact zU (ja3 @rdR.eq_1 hz.symm @hor))
  refine At.of (k+1) zO zO rfl rfl ?_ ?_ ?_
  ·simp only;omega
  iterate 2 (case _=>(first|exact yU (ja2 @rdR.eq_1 @Int.add_assoc)|refine yR (ja2 @rdR.eq_1 @Int.add_assoc) ?_))
 ·simp only [decide_eq_false_iff_not] at h
  obtain rfl:k=n:=zO
  repeat (first|refine zR @rdR.eq_1 ?_|exact zU @rdR.eq_1)
  omega
theorem Zii [Tabs Tryz.prog] (nl:Bool) (b:List UInt8) (hl:b.length≤1000000) (i:Nat) (hi:i≤8*b.length) :
  HCon Tryz.prog Zdh [.op 1000 0 0] [.row false (rdR nl b i)] (.tup []) [(1000,0,.row false (rdR nl b ((i+7) / 8*8)))] 1:=by
 refine HCon.of' mix Tryz.func86 rfl Tryz.ntmps86 Zjm Zjn zB (by simp [AV.gl,AV.gl.glL]) Zcw ?_
 unfold ZfN
 obtain ⟨m,hm⟩:∃ m,m=i+7:=⟨_,rfl⟩
 have e:(i:Int)+8-1=(m:Int):=zO
 rw [←hm]
 repeat (first|refine zR (ja2 @rdR.eq_1 @e) ?_|exact zU (ja2 @rdR.eq_1 @e))
 refine ⟨rfl,?_⟩
 rw [Int.natCast_mul];rfl
def ZAV (len i:Nat) (n:Int):Bool:=decide (0≤n∧n≤((len-(i+7) / 8:Nat):Int))
theorem Zoq [Tabs Tryz.prog] (nl:Bool) (b:List UInt8) (hl:b.length≤1000000) (i:Nat) (hi:i≤8*b.length) (n:Int) (hn:ZAV b.length i n=false) :
  HCon Tryz.prog Zdi [.op 1000 0 0,int n] [.row false (rdR nl b i)] (.tup [.sc (.slice none 0 0),boo false]) [(1000,0,.row false (rdR nl b ((i+7) / 8*8)))] 10:=by
 refine HCon.of' mix Tryz.func87 rfl Tryz.ntmps87 ZfO ZfP zB (by simp [AV.gl,AV.gl.glL,int]) Zcw ?_
 unfold Zdm
 have hn':=of_decide_eq_false hn
 obtain ⟨j,hj⟩:∃ j,j=(i+7) / 8:=⟨_,rfl⟩
 rw [←hj] at hn' ⊢
 repeat (first|refine zS ?_|exact zT)
 refine Zab [(1000,0)] 2000 (Zii nl b hl i hi) zB zB ?_ ?_ ?_
 iterate 2 (case _=>(first|exact yU @rdR.eq_1|refine yR @rdR.eq_1 ?_))
 rw [←hj]
 by_cases c1:n<0
 ·have d1:=decide_eq_true c1
  repeat (first|refine zR (ja2 @d1 @rdR.eq_1) ?_|exact zU (ja2 @d1 @rdR.eq_1))
 have d1:=decide_eq_false c1
 have d3:decide (((8*b.length-j*8:Nat):Int) / 8<n)=true:=decide_eq_true zO
 have d3':decide ((((8*b.length-j*8) / 8:Nat):Int)<n)=true:=decide_eq_true zO
 repeat (first|refine zR (ja2 @d1 @rdR.eq_1) ?_|exact zU (ja2 @d1 @rdR.eq_1))
 refine Zab [(1000,0)] 3000 (Zf0 nl b hl (j*8) zO) zB zB ?_ ?_ ?_
 iterate 2 (case _=>(first|exact yU @rdR.eq_1|refine yR @rdR.eq_1 ?_))
 repeat (first|refine zR (ja2 @d3' @rdR.eq_1) ?_|exact zU (ja2 @d3' @rdR.eq_1))
theorem ZpH [Tabs Tryz.prog] (nl:Bool) (b:List UInt8) (hl:b.length≤1000000) (hnl:nl=true→b=[]) (i:Nat) (hi:i≤8*b.length) (j:Nat) (hj:j=(i+7) / 8) (n:Nat) (hn:n+j≤b.length) :
  HCon Tryz.prog Zdi [.op 1000 0 0,int (n:Int)] [.row false (rdR nl b i)] (.tup [.sl nl none (((b.drop j).take n).map u8),boo true]) [(1000,0,.row false (rdR nl b (8*(j+n))))] 10:=by
 refine HCon.of' mix Tryz.func87 rfl Tryz.ntmps87 ZfO ZfP zB (by simp [AV.gl,AV.gl.glL,int]) Zcw ?_
 unfold Zdm
 repeat (first|refine zS ?_|exact zT)
 refine Zab [(1000,0)] 2000 (Zii nl b hl i hi) zB zB ?_ ?_ ?_
 iterate 2 (case _=>(first|exact yU @rdR.eq_1|refine yR @rdR.eq_1 ?_))
 rw [←hj]
 have d1:decide ((n:Int)<0)=false:=decide_eq_false zO
 have d3:decide ((((8*b.length-j*8) / 8:Nat):Int)<(n:Int))=false:=decide_eq_false zO
 have hnl':nl=true→(b.drop j).take n=[]:=fun h=>by rw [hnl h];simp
 have e2:j*8 / 8=j:=zO
 have hl2:((b.drop j).take n).length≤1000000:=by rw [List.length_take,List.length_drop];omega
 have hdt:(b.take (j+n)).drop j=(b.drop j).take n:=by rw [List.drop_take];congr 1;omega
 have e3:8*(j+n)=j*8+n*8:=zO
 rw [e3]
 repeat (first|refine zR (ja2 @d1 @rdR.eq_1) ?_|exact zU (ja2 @d1 @rdR.eq_1))
 refine Zab [(1000,0)] 3000 (Zf0 nl b hl (j*8) zO) zB zB ?_ ?_ ?_
 iterate 2 (case _=>(first|exact yU @rdR.eq_1|refine yR @rdR.eq_1 ?_))
 repeat (first|refine zR (ja4 @d3 @rdR.eq_1 @e2 @hdt) ?_|exact zU (ja4 @d3 @rdR.eq_1 @e2 @hdt))
 refine Zaq _ (.inl ⟨by simp only [AV.free,AV.free.freeL,Zag,Bool.and_self],Zkg nl _ hl2 hnl'⟩) ?_
 repeat (first|refine zR @rdR.eq_1 ?_|exact zU @rdR.eq_1)
 rw [Int.natCast_mul n 8];rfl
def BD0:=ja4 @Zay @List.take_zero.{0} @Zae.eq_1 @List.flatMap_nil.{0,0}
theorem Zun [Tabs Tryz.prog] (nl:Bool) (b:List UInt8) (hl:b.length≤1000000):Con Tryz.prog Zfu [.sl nl none (b.map u8)] (.sl (nl0 b.length) none ((Zae b).map nA)):=by
 refine Con.of' mix Tryz.func22 rfl Tryz.ntmps22 Zjg Zjh zB (by simp only [AV.free,AV.free.freeL,Zag,Bool.and_self]) (by simp only [AV.free,Zaj]) ?_
 unfold ZfC
 repeat (first|refine zS ?_|exact zT)
 refine SWp.adopt 3 none yT ?_
 refine SWp.loop (α:=Nat × Nat × Nat) (fun x=>mk 30 x.2.2 [(0,.sl nl none (b.map u8)),(3,.own 3 x.2.1 none 0 (8*x.1)),(4,int x.1)] [(3,x.2.1,.row (nl0 x.1) ((Zae (b.take x.1)).map nA))])
  (fun x=>x.1≤b.length) (fun x=>b.length-x.1) (0,0,1) (Nat.zero_le _) (Zal rfl ?_ ?_ ?_) ?_
 ·exact Nat.le_refl _
 iterate 2 (case _=>(first|exact yU BD0|refine yR BD0 ?_))
 rintro ⟨k,g,c⟩ hk -
 simp only at hk
 have hlk:(Zae (b.take k)).length=8*k:=by rw [Zad,List.length_take];omega
 repeat (first|refine zS ?_|exact zT)
 refine SWp.cond rfl (fun h=>?_) (fun h=>?_)
 ·simp only [decide_eq_true_eq] at h
  have hk8:k<b.length:=zO
  have hs:=Zul hk8
  obtain ⟨y,hy⟩:∃ y,y=b.getD k 0:=⟨_,rfl⟩
  rw [←hy] at hs
  have hyl:=y.toNat_lt
  have hn8:nl0 (8*k)=nl0 k:=by cases k <;> rfl
  repeat (first|refine zR hy.symm ?_|exact zU hy.symm)
  refine SWp.loop (α:=Nat × Nat × Nat × Nat) (fun x=>mk 30 x.2.2.1 [(0,.sl nl none (b.map u8)),(3,.own 3 x.2.1 none 0 (8*k+x.1)),(4,int k),(5,int (x.2.2.2:Nat)),(6,int x.1)] [(3,x.2.1,.row (nl0 (8*k+x.1)) ((Zae (b.take k)).map nA++((Zc8 y).take x.1).map nA))])
   (fun x=>x.1≤8∧x.2.2.2=y.toNat / 2^x.1) (fun x=>8-x.1) (0,g,c,y.toNat) ⟨Nat.zero_le _,by simp⟩ (Zal rfl ?_ ?_ ?_) ?_
  ·exact Nat.le_refl _
  iterate 2 (case _=>(first|exact yU @hn8|refine yR @hn8 ?_))
  rintro ⟨j,g,c,v⟩ ⟨hj,hv⟩ -
  simp only at hj hv
  have hlj:((Zc8 y).take j).length=j:=by rw [List.length_take,ZaM];omega
  have hvl:v<256:=by rw [hv];exact Nat.lt_of_le_of_lt (Nat.div_le_self _ _) hyl
  repeat (first|refine zS ?_|exact zT)
  refine SWp.cond rfl (fun h=>?_) (fun h=>?_)
  ·simp only [decide_eq_true_eq] at h
   have hj8:j<8:=zO
   have hsb:=Zum (c:=y) hj8
   rw [←hv] at hsb
   repeat (first|refine zR (ja3 @hlk @hlj iR) ?_|exact zU (ja3 @hlk @hlj iR))
   refine At.of (j+1,c,c+1,v / 2) ⟨by simp only;omega,by simp only;rw [hv,Nat.div_div_eq_div_mul,Nat.pow_succ]⟩ (by simp only;omega) rfl rfl (Nat.le_refl _) ?_ ?_
   ·(first|exact yT|refine yS ?_)
    omega
   ·(first|exact yU (ja3 @hsb @Zaw @nA.eq_1)|refine yR (ja3 @hsb @Zaw @nA.eq_1) ?_)
    exact (Zci zO).symm
  ·simp only [decide_eq_false_iff_not] at h
   obtain rfl:j=8:=zO
   have ht:(Zc8 y).take 8=Zc8 y:=List.take_of_length_le (by rw [ZaM];exact Nat.le_refl _)
   repeat (first|refine zS ?_|exact zT)
   refine At.of (k+1,g,c) (by simp only;omega) (by simp only;omega) rfl rfl (Nat.le_refl _) ?_ ?_
   ·(first|exact yT|refine yS ?_)
    omega
   ·(first|exact yU (ja3 @hs @ht @Zaw)|refine yR (ja3 @hs @ht @Zaw) ?_)
 ·simp only [decide_eq_false_iff_not] at h
  obtain rfl:k=b.length:=zO
  have hlb:(Zae b).length=8*b.length:=Zad
  repeat (first|refine zR (ja3 @List.take_length.{0} @hlb iR) ?_|exact zU (ja3 @List.take_length.{0} @hlb iR))
theorem Zuo {l:List Nat} {k:Nat} (h:k<l.length):Zfi (l.drop k)=l.getD k 0+2*Zfi (l.drop (k+1)):=by
 rw [List.drop_eq_getElem_cons h];simp [Zfi,List.getD,List.getElem?_eq_getElem h]
def BD1:=ja2 @Nat.sub_self @List.drop_zero.{0}
theorem ZpI [Tabs Tryz.prog] (nl:Bool) (l:List Nat) (hl:l.length≤24) (h2:∀ x∈l,x<2):Con Tryz.prog Zer [.sl nl none (l.map nA)] (int (Zfi l:Nat)):=by
 refine Con.of' mix Tryz.func48 rfl Tryz.ntmps48 Zia Zib zB (by simp only [AV.free,AV.free.freeL,Zaj,Bool.and_self]) rfl ?_
 unfold Zey
 repeat (first|refine zS ?_|exact zT)
 refine SWp.loop (α:=Nat) (fun j=>mk 20 0 [(0,.sl nl none (l.map nA)),(3,int (Zfi (l.drop (l.length-j)):Nat)),(4,int ((l.length:Int)-1-j))] [])
  (fun j=>j≤l.length) (fun j=>l.length-j) 0 (Nat.zero_le _) (Zal rfl ?_ ?_ ?_) ?_
 ·exact Nat.le_refl _
 iterate 2 (case _=>(first|exact yU (ja3 @List.drop_length.{0} @Zfi.eq_1 @Zfi.eq_2)|refine yR (ja3 @List.drop_length.{0} @Zfi.eq_1 @Zfi.eq_2) ?_))
 rintro j hj -
 repeat (first|refine zS ?_|exact zT)
 refine SWp.cond rfl (fun h=>?_) (fun h=>?_)
 ·simp only [decide_eq_true_eq] at h
  have hjl:j<l.length:=zO
  obtain ⟨k,hk⟩:∃ k,k=l.length-(j+1):=⟨_,rfl⟩
  have hk1:l.length-j=k+1:=zO
  have hkl:k<l.length:=zO
  have hi:(l.length:Int)-1-(j:Int)=(k:Int):=zO
  have hs:=Zuo hkl
  have hx2:l.getD k 0<2:=by
   have:l.getD k 0=l[k]:=by simp [List.getD,List.getElem?_eq_getElem hkl]
   rw [this];exact h2 _ (List.getElem_mem hkl)
  have hlt:=ZmA (l:=l.drop (k+1)) fun x hx=>h2 x (List.mem_of_mem_drop hx)
  have hpow:2^(l.drop (k+1)).length≤16777216:=ZaI (n:=(l.drop (k+1)).length) (m:=24) (by rw [List.length_drop];omega)
  obtain ⟨x,hx⟩:∃ x,x=l.getD k 0:=⟨_,rfl⟩
  obtain ⟨y,hy⟩:∃ y,y=Zfi (l.drop (k+1)):=⟨_,rfl⟩
  rw [←hx] at hs hx2
  rw [←hy] at hs hlt
  have hyl:y<16777216:=zO
  repeat (first|refine zR (ja5 @hi iR @hk1 hx.symm hy.symm) ?_|exact zU (ja5 @hi iR @hk1 hx.symm hy.symm))
  refine At.of (j+1) zO zO rfl rfl (Nat.le_refl _) ?_ ?_
  ·(first|exact yU (ja2 hk.symm @hs)|refine yR (ja2 hk.symm @hs) ?_)
   omega
  ·(first|exact yT|refine yS ?_)
 ·simp only [decide_eq_false_iff_not] at h
  obtain rfl:j=l.length:=zO
  repeat (first|refine zR BD1 ?_|exact zU BD1)
def Zij (L:List Nat) (k:Nat):UInt8:=UInt8.ofNat (Zfi ((L.drop (8*k)).take 8))
def Za6 (L:List Nat):List UInt8:=(List.range ((L.length+7) / 8)).map (Zij L)
theorem ZcE {L:List Nat}:(Za6 L).length=(L.length+7) / 8:=by simp [Za6]
theorem Zhy {L M:List Nat} {k:Nat} (h:8*k+8≤L.length):Zij (L++M) k=Zij L k:=by
 unfold Zij
 rw [List.drop_append_of_le_length zO,List.take_append_of_le_length (by rw [List.length_drop];omega)]
theorem ZpJ {L:List Nat} {x:Nat} (h:L.length % 8=0):Za6 (L++[x])=Za6 L++[UInt8.ofNat x]:=by
 unfold Za6
 rw [List.length_append,List.length_singleton,show (L.length+1+7) / 8=(L.length+7) / 8+1 by omega,List.range_succ,List.map_append]
 congr 1
 ·refine List.map_congr_left fun k hk=>?_
  have:=List.mem_range.1 hk
  exact Zhy zO
 ·have e:8*((L.length+7) / 8)=L.length:=zO
  simp only [List.map_cons,List.map_nil,Zij,e,List.drop_left]
  simp [Zfi]
theorem Zrp {L:List Nat} (h:L.length % 8≠0):(Za6 L).getD (L.length / 8) 0=UInt8.ofNat (Zfi (L.drop (8*(L.length / 8)))):=by
 have hk:L.length / 8<(L.length+7) / 8:=zO
 have:(L.drop (8*(L.length / 8))).take 8=L.drop (8*(L.length / 8)):=List.take_of_length_le (by rw [List.length_drop];omega)
 simp only [List.getD,Za6,List.getElem?_map,List.getElem?_range hk,Option.map_some,Option.getD_some,Zij,this]
theorem ZpK {L:List Nat} {x:Nat} (h:L.length % 8≠0):Za6 (L++[x])=(Za6 L).set (L.length / 8) (UInt8.ofNat (Zfi (L.drop (8*(L.length / 8)))+2^(L.length % 8)*x)):=by
 apply List.ext_getElem?
 intro k
 have hl:(L++[x]).length=L.length+1:=by simp
 have e:(L.length+1+7) / 8=(L.length+7) / 8:=zO
 rw [List.getElem?_set,ZcE]
 by_cases hk:k<(L.length+7) / 8
 ·have h1:(Za6 (L++[x]))[k]? = some (Zij (L++[x]) k):=by simp [Za6,e,hk]
  have h2:(Za6 L)[k]? = some (Zij L k):=by simp [Za6,hk]
  rw [h1,h2]
  split
  ·rename_i e'
   subst e'
   rw [if_pos hk]
   congr 1
   unfold Zij
   rw [List.drop_append_of_le_length zO,List.take_of_length_le (by rw [List.length_append,List.length_drop,List.length_singleton];omega),Zhx,List.length_drop]
   have:L.length-8*(L.length / 8)=L.length % 8:=zO
   rw [this];simp [Zfi]
  ·rw [Zhy zO]
 ·have h1:(Za6 (L++[x]))[k]? = none:=List.getElem?_eq_none (by rw [ZcE,hl];omega)
  have h2:(Za6 L)[k]? = none:=List.getElem?_eq_none (by rw [ZcE];omega)
  rw [h1,h2]
  split
  ·rename_i e'
   rw [e',if_neg hk]
  ·rfl
def Zea (v n:Nat):List Nat:=(List.range n).map fun k=>v / 2^k % 2
def Zor (v n:Nat):List Nat:=(List.range n).map fun k=>v / 2^(n-1-k) % 2
theorem Zwk {v n:Nat}:∀ x∈Zea v n,x<2:=by
 intro x hx;obtain ⟨k,_,rfl⟩:=List.mem_map.1 hx;exact Nat.mod_lt _ zO
theorem ZaP {v n:Nat}:(Zea v n).length=n:=by simp [Zea]
theorem Zdp {v n:Nat}:(Zor v n).length=n:=by simp [Zor]
theorem Zwl {v n k:Nat} (h:k<n):(Zea v n).take (k+1)=(Zea v n).take k++[v / 2^k % 2]:=by
 rw [Zm0 (d:=0) (by rw [ZaP];exact h)];simp [Zea,List.getD,h]
theorem Zwm {v n k:Nat} (h:k<n):(Zor v n).take (k+1)=(Zor v n).take k++[v / 2^(n-1-k) % 2]:=by
 rw [Zm0 (d:=0) (by rw [Zdp];exact h)];simp [Zor,List.getD,h]
end Go.Proofs.YtfplkgciebjehabGreatDoor.Aw
