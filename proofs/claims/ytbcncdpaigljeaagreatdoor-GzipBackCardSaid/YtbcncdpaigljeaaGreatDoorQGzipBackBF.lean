/- Parts of the proof of GzipBack. -/
import Derived.Test.YtbcncdpaigljeaaGreatDoorQGzipBackBD
import Derived.Test.YtbcncdpaigljeaaGreatDoorQGzipBackBC
import Derived.Shelf.Strings.Search1
import Derived.Shelf.Bytes.IndexByte
import Derived.Test.YtbcncdpaigljeaaGreatDoorProg
import Derived.Test.YtbcncdpaigljeaaGreatDoorQGzipBackBE
namespace Go.Proofs.YtbcncdpaigljeaaGreatDoor.Aw
open Go
set_option linter.unusedSimpArgs false
set_option linter.unusedVariables false
set_option linter.defProp false
def nA (n:Nat):AV:=.sc (.int .i64 (n:Int))
theorem Zcm {l:List Nat} {i:Nat} (h:i<l.length):(l.map nA).getD i .junk = .sc (.int .i64 ((l.getD i 0:Nat):Int)):=by
 simp [List.getD,List.getElem?_eq_getElem h,nA]
theorem ZAe {l:List Int} {i:Nat} (h:i<l.length):(l.map int).getD i .junk = .sc (.int .i64 (l.getD i 0)):=by
 simp [List.getD,List.getElem?_eq_getElem h,int]
theorem Zab {l:List Nat}:AV.free.freeL (l.map nA)=true:=Zba.2 fun x hx=>by
 obtain ⟨n,_,rfl⟩:=List.mem_map.1 hx;rfl
theorem Zib {l:List Int}:AV.free.freeL (l.map int)=true:=Zba.2 fun x hx=>by
 obtain ⟨n,_,rfl⟩:=List.mem_map.1 hx;rfl
theorem ZoF {ρ:Nat→Nat→Nat × Nat} {l:List Nat}:ren.renL ρ (l.map nA)=l.map nA:=Zbb ρ _ Zab
theorem ZFW {ρ:Nat→Nat→Nat × Nat} {l:List Int}:ren.renL ρ (l.map int)=l.map int:=Zbb ρ _ Zib
theorem Zf9 {l:List Nat} {n:Nat}:(l.map nA).take n=(l.take n).map nA:=by simp
theorem Zg0 {l:List Nat} {n:Nat}:(l.map nA).drop n=(l.drop n).map nA:=by simp
theorem ZFX {l:List Int} {n:Nat}:(l.map int).take n=(l.take n).map int:=by simp
theorem ZFY {l:List Int} {n:Nat}:(l.map int).drop n=(l.drop n).map int:=by simp
theorem ZFZ {id g:Nat} {nl:Bool} {cells:List AV} {l:List Nat}:fzo.fzoL id g nl cells (l.map nA)=l.map nA:=ZcH _ Zab
theorem ZF0 {id g:Nat} {nl:Bool} {cells:List AV} {l:List Int}:fzo.fzoL id g nl cells (l.map int)=l.map int:=ZcH _ Zib
theorem ZAf {hp:Hp}:∀ {l:List Nat},frz.frzL hp (l.map nA)=l.map nA
 | []=>rfl
 | c::l=>by simp only [List.map_cons,frz.frzL,ZAf];rfl
theorem ZEu:∀ {l:List UInt8},AV.fo.foL (l.map u8)=true
 | []=>rfl
 | _::l=>by simp only [List.map_cons,AV.fo.foL,u8,AV.fo,Bool.true_and];exact ZEu
theorem Zcq {l:List Nat} {k x:Nat} (h:k<l.length):(l.take k).map nA++(.sc (.int .i64 (x:Int))::(l.drop (k+1)).map nA)=(l.set k x).map nA:=by
 rw [List.set_eq_take_append_cons_drop,if_pos h]
 simp [nA]
theorem ZAg {l:List Int} {k:Nat} {x:Int} (h:k<l.length):(l.take k).map int++(.sc (.int .i64 x)::(l.drop (k+1)).map int)=(l.set k x).map int:=by
 rw [List.set_eq_take_append_cons_drop,if_pos h]
 simp [int]
theorem ZaB {st:ASt}:ZhR st [] = .tup []:=rfl
def iR:=And.intro @ZaB <| And.intro (And.intro (And.intro @Zcm @ZAe) (And.intro @Zab @Zib)) (And.intro (And.intro (And.intro @ZoF @ZFW) (And.intro (And.intro @Zf9 @Zg0) (And.intro @ZFX @ZFY))) (And.intro (And.intro @ZFZ @ZF0) @ZAf))
def fR:=And.intro (And.intro (And.intro @ZHN @ZFR) (And.intro @ZDt @ZHO)) (And.intro (And.intro (And.intro @ZHP @ZFS) (And.intro @ZFT @Zuy)) (And.intro (And.intro (And.intro @ZEt @ZDu) (And.intro @ZAb @ZFU)) (And.intro @ZFV (And.intro @ZHQ @ZHR))))
theorem ZiP {α:Type} {l:List α} {k:Nat} {d:α} (h:k<l.length):l.take (k+1)=l.take k++[l.getD k d]:=by
 rw [List.take_succ_eq_append_getElem h];simp [List.getD,List.getElem?_eq_getElem h]
theorem Zbi {x:Int} (h1:0≤x) (h2:x<18446744073709551616):IntKind.u64.wrap x=x:=by
 simp only [IntKind.wrap,IntKind.bits,IntKind.signed]
 simp
 omega
theorem Zcf {n m:Nat} (h:n≤m):2^n≤2^m:=Nat.pow_le_pow_right (by omega) h
end Go.Proofs.YtbcncdpaigljeaaGreatDoor.Aw
namespace Go.Proofs
open Go.Shelf
def Tryz.lays217_ren:Go.Shelf.Ren:=⟨fun | 217=>67 | 266=>112 | n=>n,fun | 9=>9 | 5=>5 | 3=>3 | n=>n,fun | n=>n⟩
theorem Tryz.lays217:Go.Proofs.Lays.n217 Tryz.prog Tryz.lays217_ren:={
 mixed:=by kernel_rfl
 f217:=Tryz.func67.trans (congrArg some (by kernel_rfl))
 f266:=Tryz.func112.trans (congrArg some (by kernel_rfl))
 t3:=Tryz.underlying3
 a3:=Tryz.isAgg3
 z3:=Tryz.sizeOf3
 v3:=Tryz.zeroValue3
 t5:=Tryz.underlying5
 a5:=Tryz.isAgg5
 z5:=Tryz.sizeOf5
 v5:=Tryz.zeroValue5
 t9:=Tryz.underlying9
 a9:=Tryz.isAgg9
 z9:=Tryz.sizeOf9
 v9:=Tryz.zeroValue9 }
open Go.RowKit Go.Lib in
theorem Tryz.stringslite_IndexByte (s:ByteArray) (c:Int) (w:World) :
  Calls Tryz.prog 67 #[.string s,.int .u8 c] w fun e w'=>e = .returned (.int .i64 (Lib.indexByte s.data.toList c.toNat.toUInt8))∧w'=w:=Any.stringslite_IndexByte Tryz.lays217 s c w
def Tryz.lays187_ren:Go.Shelf.Ren:=⟨fun | 187=>144 | 255=>150 | n=>n,fun | 37=>22 | 5=>5 | 3=>3 | n=>n,fun | n=>n⟩
theorem Tryz.lays187:Go.Proofs.Lays.n187 Tryz.prog Tryz.lays187_ren:={
 mixed:=by kernel_rfl
 f187:=Tryz.func144.trans (congrArg some (by kernel_rfl))
 f255:=Tryz.func150.trans (congrArg some (by kernel_rfl))
 t3:=Tryz.underlying3
 a3:=Tryz.isAgg3
 z3:=Tryz.sizeOf3
 v3:=Tryz.zeroValue3
 t5:=Tryz.underlying5
 a5:=Tryz.isAgg5
 z5:=Tryz.sizeOf5
 v5:=Tryz.zeroValue5
 t37:=Tryz.underlying22
 a37:=Tryz.isAgg22
 z37:=Tryz.sizeOf22
 v37:=Tryz.zeroValue22 }
theorem Tryz.bytes_IndexByte (b o n c:Nat) (xs:List Int) (cv:Int) (w:World) (hx:xs.length=n) (hc:∀ i,i<n→w.cell? ⟨b,o+i,none⟩=some (.int .u8 (xs.getD i 0))) :
  Calls Tryz.prog 144 #[.slice (some ⟨b,o,none⟩) n c,.int .u8 cv] w fun e w'=>e = .returned (.int .i64 (Lib.indexByte (Lib.bytesOf xs) cv.toNat.toUInt8))∧w'=w:=Any.bytes_IndexByte Tryz.lays187 b o n c xs cv w hx hc
end Go.Proofs
namespace Go.Proofs.YtbcncdpaigljeaaGreatDoor.Aw
open Go
set_option linter.unusedSimpArgs false
set_option linter.unusedVariables false
theorem Zmx [Tabs Tryz.prog] (s:ByteArray) (c:UInt8):Con Tryz.prog ZdT [.sc (.string s),.sc (.int .u8 c.toNat)] (.sc (.int .i64 (Lib.indexByte s.data.toList c))):=by
 refine Con.same (xs:=[.string s,.int .u8 c.toNat]) fun w=>?_
 have:=Tryz.stringslite_IndexByte s c.toNat w
 rw [show ((c.toNat:Int).toNat.toUInt8)=c by simp] at this
 exact this
theorem Zga [Tabs Tryz.prog] (s:ByteArray) (c:UInt8):Con Tryz.prog ZfW [.sc (.string s),.sc (.int .u8 c.toNat)] (.sc (.int .i64 (Lib.indexByte s.data.toList c))):=by
 refine Con.of' mix Tryz.func36 rfl Tryz.ntmps36 Zks Zkt (by simp) rfl rfl ?_
 unfold ZfX
 repeat (first | refine zS ?_ | exact zT)
 refine Zay _ (.inl ⟨rfl,Zmx s c⟩) ?_
 repeat (first | refine zS ?_ | exact zT)
theorem ZHS {G:Gh} {w:World}:∀ {b:List UInt8} {vs:List Value},RdL G w (b.map u8) vs→vs=b.map fun c=>Value.int .u8 (c.toNat:Int)
 | [],vs,h=>by simpa [RdL] using h
 | c::b,vs,h=>by
  simp only [List.map_cons,RdL] at h
  obtain ⟨v,r,rfl,h1,h2⟩:=h
  rw [ZHS h2]
  simp only [u8,Rd] at h1
  rw [h1];rfl
theorem Zx4 {b:List UInt8}:Lib.bytesOf (b.map fun c=>(c.toNat:Int))=b:=by
 simp [Lib.bytesOf,Function.comp_def]
theorem Zmy [Tabs Tryz.prog] (nl:Bool) (b:List UInt8) (hb:b≠[]) (c:UInt8):Con Tryz.prog Zhc [.sl nl none (b.map u8),.sc (.int .u8 c.toNat)] (.sc (.int .i64 (Lib.indexByte b c))):=by
 intro w S vs _ hS hr
 simp only [RdL] at hr
 obtain ⟨v,r,rfl,h1,v2,r2,rfl,h2,rfl⟩:=hr
 simp only [Rd] at h1 h2
 subst h2
 obtain ⟨base,len,cap,us,rfl,rfl,hlc,hus,_,hbc,hcell⟩:=h1
 have hus:=ZHS hus
 subst hus
 have hne:(b.map fun c=>Value.int .u8 (c.toNat:Int))≠[]:=by simpa using hb
 cases base with
 | none =>
  have:=hbc rfl
  rw [this,List.length_map] at hlc
  exact absurd (List.eq_nil_of_length_eq_zero (by omega)) hb
 | some a =>
  obtain ⟨hsp,_,hat⟩:=hcell a rfl hne
  obtain ⟨ab,ao,asp⟩:=a
  simp only at hsp hat
  subst hsp
  have hc:=Tryz.bytes_IndexByte ab ao b.length cap (b.map fun c=>(c.toNat:Int)) c.toNat w (by simp) (fun i hi=>by
   have hx:(b.map fun c=>Value.int .u8 (c.toNat:Int))[i]? = some (.int .u8 ((b[i]).toNat:Int)):=by simp [hi]
   have:=(hat i _ hx).2 0 (.int .u8 ((b[i]).toNat:Int)) rfl
   simp only [esz,Nat.mul_one,Nat.add_zero] at this
   rw [this]
   simp [List.getD,hi])
  rw [Zx4,show ((c.toNat:Int).toNat.toUInt8)=c by simp] at hc
  rw [List.length_map]
  refine Calls.mono hc ?_
  rintro e w' ⟨rfl,rfl⟩
  exact ⟨_,S,rfl,Keep.refl _ _ _,fun _ h=>h,fun _ h=>.inl h,hS,rfl,by simp [Rd]⟩
set_option maxRecDepth 100000 in
theorem ZsB [Tabs Tryz.prog] (n:Nat) (h0:0<n) (hn:n≤10000000):HCon Tryz.prog ZeP [.sc (.slice none 0 0),int n] [] (.own 22 1 none 0 0) [(22,1,.row false [])] 2:=by
 refine HCon.of' mix Tryz.func70 rfl Tryz.ntmps70 Zi3 Zi4 (by simp) (by simp [AV.gl,AV.gl.glL,int]) (by simp) ?_
 unfold ZeQ
 have d1:decide ((n:Int)<0)=false:=decide_eq_false (by omega)
 have d2:decide ((n:Int)>0)=true:=decide_eq_true (by omega)
 have d3:(n==0)=false:=by simp;omega
 iterate 16 (first | refine zR (ja3 @d1 @d2 @d3) ?_ | exact zU (ja3 @d1 @d2 @d3))
 refine SWp.cut 22 0 (g:=1) (nl:=false) (cells:=(List.replicate n [AV.sc (.int .u8 0)]).flatten) (by (first | exact yT | refine yS ?_)) ?_
 repeat (first | refine zS ?_ | exact zT)
set_option maxRecDepth 100000 in
theorem ZnE [Tabs Tryz.prog] (n1 n2 n3:Bool) (X Y Z:List UInt8) (n:Nat) (hn:n=X.length+Y.length+Z.length) (hl:n≤10000000) (h0:0<X.length) :
  HCon Tryz.prog ZdS [.sl false none [.sl n1 none (X.map u8),.sl n2 none (Y.map u8),.sl n3 none (Z.map u8)]] [] (.own 1022 5 none 0 n) [(1022,5,.row false ((X++(Y++Z)).map u8))] 10:=by
 refine HCon.of' mix Tryz.func38 rfl Tryz.ntmps38 ZhW ZhX (by simp) (by simp only [AV.gl,AV.gl.glL,and_true];exact ⟨Zae _ _ Zak,Zae _ _ Zak,Zae _ _ Zak⟩) (by simp) ?_
 unfold ZdY
 obtain ⟨m,hm⟩:∃ m,m=X.length+Y.length:=⟨_,rfl⟩
 have hc:(X.length:Int)+(Y.length:Int)=(m:Int):=by omega
 have hc2:(m:Int)+(Z.length:Int)=(n:Int):=by omega
 have d1:decide ((X.length:Int)<0)=false:=decide_eq_false (by omega)
 have d2:decide ((m:Int)<0)=false:=decide_eq_false (by omega)
 have d3:decide ((n:Int)<0)=false:=decide_eq_false (by omega)
 repeat (first | refine zS ?_ | exact zT)
 refine SWp.unroll ?_
 repeat (first | refine zR (ja6 @d1 @hc @d2 @hc2 @d3 @List.length_map.{0,0}) ?_ | exact zU (ja6 @d1 @hc @d2 @hc2 @d3 @List.length_map.{0,0}))
 refine Zag [] 1000 (ZsB n (by omega) (by omega)) (by simp) (by simp) ?_ ?_ ?_
 iterate 2 (case _=>(first | exact yT | refine yS ?_))
 repeat (first | refine zS ?_ | exact zT)
 have e1:X.length≤70368744177664:=by omega
 have e2:X.length+Y.length≤70368744177664:=by omega
 have hn2:X.length+Y.length+Z.length=n:=hn.symm
 refine SWp.unroll ?_
 repeat (first | refine zR (ja3 @List.length_append.{0} @List.length_map.{0,0} @hn2) ?_ | exact zU (ja3 @List.length_append.{0} @List.length_map.{0,0} @hn2))
theorem Zuz {hp:Hp}:∀ {l:List UInt8},frz.frzL hp (l.map u8)=l.map u8
 | []=>rfl
 | c::l=>by simp only [List.map_cons,frz.frzL];rw [Zuz];rfl
def tlB (b:List UInt8):List UInt8:=leB (ZkK 0 b).toNat 4++leB b.length 4
theorem ZGU {n:Nat}:leB n 4=[UInt8.ofNat n,UInt8.ofNat (n / 256),UInt8.ofNat (n / 65536),UInt8.ofNat (n / 16777216)]:=by
 simp [leB,List.range_succ]
theorem ZaS {n:Nat}:(leB n 4).length=4:=by simp [leB]
theorem ZIR {n:Nat}:leR n 4 = .sl false none ((leB n 4).map u8):=rfl
set_option maxRecDepth 100000 in
theorem ZsC [Tabs Tryz.prog] (nl:Bool) (b:List UInt8) (hb:b.length≤1000000):Con Tryz.prog Zkq [.sl nl none (b.map u8)] (.agg ((tlB b).map u8)):=by
 refine Con.of' mix Tryz.func37 rfl Tryz.ntmps37 Zup Zuq (by simp) (by simp only [AV.free,AV.free.freeL,Zak,Bool.and_self]) (by simp only [AV.free,Zak]) ?_
 unfold ZoB
 have hc:=ZsA nl b hb
 have hlt:=(ZkK 0 b).toNat_lt
 obtain ⟨c,hcc⟩:∃ c,c=ZkK 0 b:=⟨_,rfl⟩
 have ht:tlB b=leB c.toNat 4++leB b.length 4:=by rw [hcc];rfl
 rw [←hcc] at hc hlt
 have l1:=Zmw c.toNat (by omega) 4 (by omega) (by omega)
 have l2:=Zmw b.length (by omega) 4 (by omega) (by omega)
 rw [ZIR] at l1 l2
 rw [ht]
 have hL1:(leB c.toNat 4).length=4:=ZaS
 have hL2:(leB b.length 4).length=4:=ZaS
 obtain ⟨X,hX⟩:∃ X,X=leB c.toNat 4:=⟨_,rfl⟩
 obtain ⟨Y,hY⟩:∃ Y,Y=leB b.length 4:=⟨_,rfl⟩
 rw [←hX] at l1 hL1 ⊢
 rw [←hY] at l2 hL2 ⊢
 obtain ⟨Z,hZ⟩:∃ Z,Z=X++Y:=⟨_,rfl⟩
 have hZl:Z.length=8:=by rw [hZ,List.length_append];omega
 have hZm:X.map u8++Y.map u8=Z.map u8:=by rw [hZ,List.map_append]
 rw [←hZ]
 have hwr:IntKind.u64.wrap (b.length:Int)=(b.length:Int):=Zf8 (by omega) (by omega)
 have hwc:IntKind.u64.wrap (c.toNat:Int)=(c.toNat:Int):=Zf8 (by omega) (by omega)
 have t1:(X.map u8).take 8=X.map u8:=List.take_of_length_le (by simp;omega)
 have t2:(Y.map u8).take 4=Y.map u8:=List.take_of_length_le (by simp;omega)
 repeat (first | refine zS ?_ | exact zT)
 refine Zay _ (.inl ⟨by simp only [AV.free,AV.free.freeL,Zak,Bool.and_self],hc⟩) ?_
 repeat (first | refine zR @hwc ?_ | exact zU @hwc)
 refine Zay _ (.inl ⟨rfl,l1⟩) ?_
 repeat (first | refine zR (ja4 @hL1 @List.length_map.{0,0} @t1 @hwr) ?_ | exact zU (ja4 @hL1 @List.length_map.{0,0} @t1 @hwr))
 refine Zay _ (.inl ⟨rfl,l2⟩) ?_
 have t3:(X.map u8).take 4=X.map u8:=List.take_of_length_le (by simp;omega)
 have t5:∀ R,(X.map u8++R).take 4=X.map u8:=fun R=>by rw [List.take_append_of_le_length (by simp;omega)];exact t3
 have t6:∀ a b c d,(X.map u8++[a,b,c,d]).drop 8=([]:List AV):=fun a b c d=>List.drop_of_length_le (by simp;omega)
 have t4:(Z.map u8).take 8=Z.map u8:=List.take_of_length_le (by simp;omega)
 repeat (first | refine zR (ja8 @hL1 @hL2 @List.length_map.{0,0} @t2 @t3 @t4 @t5 (ja5 @t6 @List.length_append.{0} @hZm @hZl @Zuz)) ?_ | exact zU (ja8 @hL1 @hL2 @List.length_map.{0,0} @t2 @t3 @t4 @t5 (ja5 @t6 @List.length_append.{0} @hZm @hZl @Zuz)))
def hdB (nm:List UInt8) (mt:Nat):List UInt8:=31::139::8::(if nm=[] then 0 else 8)::(leB mt 4++(0::3::(if nm=[] then [] else nm++[0])))
set_option maxRecDepth 100000 in
theorem ZAh [Tabs Tryz.prog] (nm:ByteArray) (hn:nm.data.toList.length≤200) (mt:Nat) (hm:mt<4294967296) (nl:Bool) (b:List UInt8):Con Tryz.prog Zox [.agg [.sc (.string nm),int mt,.sl nl none (b.map u8)]] (.sl false none ((hdB nm.data.toList mt).map u8)):=by
 refine Con.of' mix Tryz.func39 rfl Tryz.ntmps39 Zun Zuo (by simp) (by simp only [AV.free,AV.free.freeL,Zak,int,Bool.and_self]) (by simp only [AV.free,Zak]) ?_
 unfold ZoA
 have l1:=Zmw mt (by omega) 4 (by omega) (by omega)
 rw [ZIR] at l1
 have hL1:(leB mt 4).length=4:=ZaS
 obtain ⟨X,hX⟩:∃ X,X=leB mt 4:=⟨_,rfl⟩
 rw [hdB,←hX]
 rw [←hX] at l1 hL1
 have hwc:IntKind.u64.wrap (mt:Int)=(mt:Int):=Zf8 (by omega) (by omega)
 by_cases c:nm.data.toList=[]
 ·have d:decide (nm.data.toList=(⟨#[]⟩:ByteArray).data.toList)=true:=decide_eq_true c
  rw [if_pos c,if_pos c]
  repeat (first | refine zR (ja2 @d @hwc) ?_ | exact zU (ja2 @d @hwc))
  refine Zay _ (.inl ⟨rfl,l1⟩) ?_
  repeat (first | refine zR (ja3 @d @hL1 @List.length_map.{0,0}) ?_ | exact zU (ja3 @d @hL1 @List.length_map.{0,0}))
  rw [List.take_of_length_le (by simp;omega)]
 ·have d:decide (nm.data.toList=(⟨#[]⟩:ByteArray).data.toList)=false:=decide_eq_false c
  rw [if_neg c,if_neg c]
  repeat (first | refine zR (ja2 @d @hwc) ?_ | exact zU (ja2 @d @hwc))
  refine Zay _ (.inl ⟨rfl,l1⟩) ?_
  repeat (first | refine zR (ja3 @d @hL1 @List.length_map.{0,0}) ?_ | exact zU (ja3 @d @hL1 @List.length_map.{0,0}))
  rw [List.take_of_length_le (by simp;omega)]
theorem ZoG {nm:List UInt8} {mt:Nat}:10≤(hdB nm mt).length∧(hdB nm mt).length≤11+nm.length:=by
 rw [hdB]
 simp only [List.length_cons,List.length_append,ZaS]
 by_cases c:nm=[]
 ·simp only [if_pos c,List.length_nil];omega
 ·simp only [if_neg c,List.length_append,List.length_cons,List.length_nil];omega
theorem ZlF [Tabs Tryz.prog] (nl:Bool) (l:List UInt8) (hl:l.length≤1000000) (hn:nl=true→l=[]):Con Tryz.prog ZdK [.sl nl none (l.map u8)] (.sl nl none (l.map u8)):=by
 refine Con.of' mix Tryz.func54 rfl Tryz.ntmps54 Zlp Zlq (by simp) (by simp only [AV.free,AV.free.freeL,Zak,Bool.and_self]) (by simp only [AV.free,Zak]) ?_
 unfold ZhV
 cases nl with
 | true =>
  obtain rfl:=hn rfl
  iterate 8 (first | refine zS ?_ | exact zT)
  refine SWp.adopt 2 none (by (first | exact yT | refine yS ?_)) ?_
  repeat (first | refine zS ?_ | exact zT)
 | false =>
  repeat (first | refine zS ?_ | exact zT)
theorem Zq7 [Tabs Tryz.prog] (nl:Bool) (l:List UInt8) (hl:l.length≤1000000) (hn:nl=true→l=[]):HCon Tryz.prog ZdK [.sl nl none (l.map u8)] [] (.own 5 2 none 0 l.length) [(5,2,.row nl (l.map u8))] 3:=by
 refine HCon.of' mix Tryz.func54 rfl Tryz.ntmps54 Zlp Zlq (by simp) (by simp only [AV.gl.glL,AV.gl,and_true];exact Zae _ _ Zak) (by simp) ?_
 unfold ZhV
 cases nl with
 | true =>
  obtain rfl:=hn rfl
  iterate 8 (first | refine zS ?_ | exact zT)
  refine SWp.adopt 2 none (by (first | exact yT | refine yS ?_)) ?_
  refine SWp.le (Zau (N:=8) (gc:=2) (l:=[(2,.own 2 1 none 0 0)]) (h:=[(2,1,.row true [])]) rfl ?_ ?_ ?_) ?_
  iterate 3 (case _=>(first | exact yT | refine yS ?_))
  refine SWp.swap 2 5 (by (first | exact yU (ja2 @Znk.eq_1 @Znk.eq_2) | refine yR (ja2 @Znk.eq_1 @Znk.eq_2) ?_)) (by (first | exact yU (ja2 @Znk.eq_1 @Znk.eq_2) | refine yR (ja2 @Znk.eq_1 @Znk.eq_2) ?_)) ?_
  refine SWp.le (Zau (N:=8) (gc:=2) (l:=[(2,.own 5 1 none 0 0)]) (h:=[(5,1,.row true [])]) rfl ?_ ?_ ?_) ?_
  iterate 3 (case _=>(first | exact yU (ja3 @ZEq @sw.eq_1 @swH.eq_1) | refine yR (ja3 @ZEq @sw.eq_1 @swH.eq_1) ?_))
  refine SWp.renew 5 1 (o:=.row true []) (by (first | exact yT | refine yS ?_)) ?_
  refine SWp.le (Zau (N:=8) (gc:=3) (l:=[(2,.own 5 2 none 0 0)]) (h:=[(5,2,.row true [])]) rfl ?_ ?_ ?_) ?_
  iterate 3 (case _=>(first | exact yU (ja2 @Zbm @Zbn) | refine yR (ja2 @Zbm @Zbn) ?_))
  repeat (first | refine zS ?_ | exact zT)
 | false =>
  repeat (first | refine zS ?_ | exact zT)
def Zfv (c:UInt8):List Nat:=(List.range 8).map fun k=>c.toNat / 2^k % 2
def Zah (l:List UInt8):List Nat:=l.flatMap Zfv
def ZkL (l:List UInt8) (i:Nat):Nat:=(l.getD (i / 8) 0).toNat / 2^(i % 8) % 2
theorem ZbD {c:UInt8}:(Zfv c).length=8:=by simp [Zfv]
theorem Zad:∀ {l:List UInt8},(Zah l).length=8*l.length
 | []=>rfl
 | c::l=>by show (Zfv c++Zah l).length=_;rw [List.length_append,ZbD,Zad,List.length_cons];omega
theorem Zbj {l m:List UInt8}:Zah (l++m)=Zah l++Zah m:=by simp [Zah]
theorem ZAi {c:UInt8} {k:Nat} (h:k<8):(Zfv c).getD k 0=c.toNat / 2^k % 2:=by
 simp [Zfv,List.getD,h]
theorem ZlG:∀ {l:List UInt8} {i:Nat},i<8*l.length→(Zah l).getD i 0=ZkL l i
 | [],i,h=>by simp at h
 | c::l,i,h=>by
  show (Zfv c++Zah l).getD i 0=_
  by_cases hi:i<8
  ·have e1:i / 8=0:=by omega
   have e2:i % 8=i:=by omega
   have:(Zfv c++Zah l).getD i 0=(Zfv c).getD i 0:=by
    simp only [List.getD];rw [List.getElem?_append_left (by rw [ZbD];exact hi)]
   rw [this,ZAi hi,ZkL,e1,e2];rfl
  ·have e1:i / 8=(i-8) / 8+1:=by omega
   have e2:i % 8=(i-8) % 8:=by omega
   have:(Zfv c++Zah l).getD i 0=(Zah l).getD (i-8) 0:=by
    simp only [List.getD];rw [List.getElem?_append_right (by rw [ZbD];omega),ZbD]
   rw [this,ZlG (by simp only [List.length_cons] at h;omega),ZkL,ZkL,e1,e2];rfl
theorem Zq8 {l:List UInt8} {i:Nat}:ZkL l i<2:=Nat.mod_lt _ (by omega)
def Zg1:List Nat→Nat
 | []=>0
 | x::r=>x+2*Zg1 r
theorem ZeF {a b:List Nat}:Zg1 (a++b)=Zg1 a+2^a.length*Zg1 b:=by
 induction a with
 | nil=>simp [Zg1]
 | cons x a ih=>simp only [List.cons_append,Zg1,ih,List.length_cons,Nat.pow_succ,Nat.mul_add];rw [Nat.mul_comm (2^a.length) 2,Nat.mul_assoc];omega
theorem ZuA {l:List Nat} (h:∀ x∈l,x<2):Zg1 l<2^l.length:=by
 induction l with
 | nil=>simp [Zg1]
 | cons x l ih =>
  have h1:=h x (by simp)
  have h2:=ih fun y hy=>h y (by simp [hy])
  simp only [Zg1,List.length_cons,Nat.pow_succ];omega
theorem Zjw {l:List UInt8}:∀ x∈Zah l,x<2:=by
 intro x hx
 simp only [Zah,Zfv,List.mem_flatMap,List.mem_map] at hx
 obtain ⟨_,_,_,_,rfl⟩:=hx
 exact Nat.mod_lt _ (by omega)
def rdR (nl:Bool) (b:List UInt8) (i:Nat):List AV:=[.sl nl none (b.map u8),.sc (.int .i64 (i:Int))]
theorem Zgj {nl:Bool} {b:List UInt8} {i:Nat}:∀ n cells,AO.row n cells∈[AO.row false (rdR nl b i)]→AV.gl.glL 1 cells:=by
 intro n cells h
 simp only [List.mem_singleton,AO.row.injEq] at h
 obtain ⟨-,rfl⟩:=h
 simp only [rdR,AV.gl.glL,AV.gl,and_true]
 exact Zae _ _ Zak
theorem ZiD [Tabs Tryz.prog] (nl:Bool) (b:List UInt8) (hl:b.length≤1000000) (hn:nl=true→b=[]) :
  HCon Tryz.prog Zir [.sl nl none (b.map u8)] [] (.op 6 1 0) [(6,1,.row false (rdR nl b 0))] 2:=by
 refine HCon.of' mix Tryz.func25 rfl Tryz.ntmps25 Znn Zno (by simp) (by simp only [AV.gl.glL,AV.gl,and_true];exact Zae _ _ Zak) (by simp) ?_
 unfold Ziv
 repeat (first | refine zS ?_ | exact zT)
 refine Zay _ (.inl ⟨by simp only [AV.free,AV.free.freeL,Zak,Bool.and_self],ZlF nl b hl hn⟩) ?_
 repeat (first | refine zR @rdR.eq_1 ?_ | exact zU @rdR.eq_1)
theorem ZsD [Tabs Tryz.prog] (nl:Bool) (b:List UInt8) (i:Nat) :
  HCon Tryz.prog Zit [.op 1000 0 0] [.row false (rdR nl b i)] (int (i:Int)) [(1000,0,.row false (rdR nl b i))] 1:=by
 refine HCon.of' mix Tryz.func27 rfl Tryz.ntmps27 Znp Znq (by simp) (by simp [AV.gl,AV.gl.glL]) Zgj ?_
 unfold Ziw
 repeat (first | refine zR @rdR.eq_1 ?_ | exact zU @rdR.eq_1)
theorem Zgb [Tabs Tryz.prog] (nl:Bool) (b:List UInt8) (hl:b.length≤1000000) (i:Nat) (hi:i≤8*b.length) :
  HCon Tryz.prog ZcB [.op 1000 0 0] [.row false (rdR nl b i)] (int ((8*b.length-i:Nat):Int)) [(1000,0,.row false (rdR nl b i))] 1:=by
 refine HCon.of' mix Tryz.func96 rfl Tryz.ntmps96 Zls Zlt (by simp) (by simp [AV.gl,AV.gl.glL]) Zgj ?_
 unfold ZgH
 have e:(b.length:Int)*8-(i:Int)=((8*b.length-i:Nat):Int):=by omega
 repeat (first | refine zR (ja2 @rdR.eq_1 @e) ?_ | exact zU (ja2 @rdR.eq_1 @e))
set_option maxRecDepth 100000 in
theorem Zqe [Tabs Tryz.prog] (nl:Bool) (b:List UInt8) (hl:b.length≤1000000) (i:Nat) (hi:i<8*b.length) :
  HCon Tryz.prog ZeC [.op 1000 0 0] [.row false (rdR nl b i)] (.sc (.int .i64 ((ZkL b i:Nat):Int))) [(1000,0,.row false (rdR nl b (i+1)))] 1:=by
 refine HCon.of' mix Tryz.func97 rfl Tryz.ntmps97 Zmh Zmi (by simp) (by simp [AV.gl,AV.gl.glL]) Zgj ?_
 unfold Zhj
 have h8:i / 8<b.length:=by omega
 have hm:i % 8<64:=by omega
 obtain ⟨c,hc⟩:∃ c,c=b.getD (i / 8) 0:=⟨_,rfl⟩
 obtain ⟨x,hx⟩:∃ x,x=c.toNat / 2^(i % 8):=⟨_,rfl⟩
 have hb:ZkL b i=x % 2:=by rw [ZkL,←hc,←hx]
 have hcl:=c.toNat_lt
 have hxl:x<256:=by rw [hx];exact Nat.lt_of_le_of_lt (Nat.div_le_self _ _) hcl
 repeat (first | refine zR (ja4 @rdR.eq_1 hc.symm hx.symm @hb) ?_ | exact zU (ja4 @rdR.eq_1 hc.symm hx.symm @hb))
def ZHT (len i:Nat) (n:Int):Bool:=decide (0≤n∧n≤24∧n≤((8*len-i:Nat):Int))
def Zb6 (b:List UInt8) (i n:Nat):Nat:=Zg1 ((List.range n).map fun k=>ZkL b (i+k))
theorem Zx5 {b:List UInt8} {i n:Nat}:Zb6 b i (n+1)=Zb6 b i n+2^n*ZkL b (i+n):=by
 unfold Zb6;rw [List.range_succ,List.map_append,ZeF];simp [Zg1]
theorem Zjx {b:List UInt8} {i n:Nat}:Zb6 b i n<2^n:=by
 have:=ZuA (l:=(List.range n).map fun k=>ZkL b (i+k)) (by intro x hx;obtain ⟨k,_,rfl⟩:=List.mem_map.1 hx;exact Zq8)
 simpa [Zb6] using this
set_option maxRecDepth 100000 in
theorem ZdG [Tabs Tryz.prog] (nl:Bool) (b:List UInt8) (hl:b.length≤1000000) (i:Nat) (hi:i≤8*b.length) (n:Int) (hn:ZHT b.length i n=false) :
  HCon Tryz.prog ZaV [.op 1000 0 0,int n] [.row false (rdR nl b i)] (.tup [int 0,boo false]) [(1000,0,.row false (rdR nl b i))] 30:=by
 refine HCon.of' mix Tryz.func55 rfl Tryz.ntmps55 ZgF ZgG (by simp) (by simp [AV.gl,AV.gl.glL,int]) Zgj ?_
 unfold ZdZ
 have hn':=of_decide_eq_false hn
 by_cases c1:n<0
 ·have d1:=decide_eq_true c1
  repeat (first | refine zR @d1 ?_ | exact zU @d1)
 have d1:=decide_eq_false c1
 by_cases c2:24<n
 ·have d2:=decide_eq_true c2
  repeat (first | refine zR (ja2 @d1 @d2) ?_ | exact zU (ja2 @d1 @d2))
 have d2:=decide_eq_false c2
 have d3:decide (((8*b.length-i:Nat):Int)<n)=true:=decide_eq_true (by omega)
 repeat (first | refine zR (ja2 @d1 @d2) ?_ | exact zU (ja2 @d1 @d2))
 refine Zag [(1000,0)] 2000 (Zgb nl b hl i hi) (by simp) (by simp) ?_ ?_ ?_
 iterate 2 (case _=>(first | exact yU @rdR.eq_1 | refine yR @rdR.eq_1 ?_))
 repeat (first | refine zR (ja3 @d3 @rdR.eq_1 iR) ?_ | exact zU (ja3 @d3 @rdR.eq_1 iR))
set_option maxRecDepth 100000 in
theorem Zdw [Tabs Tryz.prog] (nl:Bool) (b:List UInt8) (hl:b.length≤1000000) (i:Nat) (hi:i≤8*b.length) (n:Nat) (hn:n≤24) (hn2:i+n≤8*b.length) :
  HCon Tryz.prog ZaV [.op 1000 0 0,int (n:Int)] [.row false (rdR nl b i)] (.tup [int (Zb6 b i n:Nat),boo true]) [(1000,0,.row false (rdR nl b (i+n)))] 30:=by
 refine HCon.of' mix Tryz.func55 rfl Tryz.ntmps55 ZgF ZgG (by simp) (by simp [AV.gl,AV.gl.glL,int]) Zgj ?_
 unfold ZdZ
 have d1:decide ((n:Int)<0)=false:=decide_eq_false (by omega)
 have d2:decide (24<(n:Int))=false:=decide_eq_false (by omega)
 have d3:decide (((8*b.length-i:Nat):Int)<(n:Int))=false:=decide_eq_false (by omega)
 repeat (first | refine zR (ja2 @d1 @d2) ?_ | exact zU (ja2 @d1 @d2))
 refine Zag [(1000,0)] 2000 (Zgb nl b hl i hi) (by simp) (by simp) ?_ ?_ ?_
 iterate 2 (case _=>(first | exact yU @rdR.eq_1 | refine yR @rdR.eq_1 ?_))
 repeat (first | refine zR (ja2 @d3 @rdR.eq_1) ?_ | exact zU (ja2 @d3 @rdR.eq_1))
 refine SWp.loop (α:=Nat) (fun k=>mk 32 (2+k) [(0,.op 1000 0 0),(1,int n),(6,int (Zb6 b i k:Nat)),(20,int n),(21,int k)] [(1000,0,.row false (rdR nl b (i+k)))])
  (fun k=>k≤n) (fun k=>n-k) 0 (Nat.zero_le _) (Zau rfl ?_ ?_ ?_) ?_
 ·simp only;omega
 iterate 2 (case _=>(first | exact yU (ja5 @Zb6.eq_1 @List.range_zero @Zg1.eq_1 @Zg1.eq_2 @rdR.eq_1) | refine yR (ja5 @Zb6.eq_1 @List.range_zero @Zg1.eq_1 @Zg1.eq_2 @rdR.eq_1) ?_))
 rintro k hk -
 repeat (first | refine zS ?_ | exact zT)
 refine SWp.cond rfl (fun h=>?_) (fun h=>?_)
 ·simp only [decide_eq_true_eq] at h
  have hkn:k<n:=by omega
  have hs:=Zx5 (b:=b) (i:=i) (n:=k)
  have hlt:=Zjx (b:=b) (i:=i) (n:=k)
  have hbl:=Zq8 (l:=b) (i:=i+k)
  have hp:2^k≤8388608:=Zcf (show k≤23 by omega)
  obtain ⟨x,hx⟩:∃ x,x=ZkL b (i+k):=⟨_,rfl⟩
  obtain ⟨y,hy⟩:∃ y,y=Zb6 b i k:=⟨_,rfl⟩
  have hbit:=Zqe nl b hl (i+k) (by omega)
  rw [←hx] at hbit hs hbl
  rw [←hy] at hs hlt
  rw [←hy]
  obtain ⟨z,hz⟩:∃ z,z=x*2^k:=⟨_,rfl⟩
  have hor:y|||z=Zb6 b i (k+1):=by
   rw [hs,hz,Nat.mul_comm,Nat.or_comm,←Nat.two_pow_add_eq_or_of_lt hlt,Nat.add_comm]
  have hzl:z≤8388608:=by
   obtain rfl | rfl:x=0∨x=1:=by omega
   ·omega
   ·omega
  have hyl:y<8388608:=by omega
  repeat (first | refine zR @rdR.eq_1 ?_ | exact zU @rdR.eq_1)
  refine Zag [(1000,0)] 2000 hbit (by simp) (by simp) ?_ ?_ ?_
  iterate 2 (case _=>(first | exact yU @rdR.eq_1 | refine yR @rdR.eq_1 ?_))
  repeat (first | refine zR (ja3 @rdR.eq_1 hz.symm @hor) ?_ | exact zU (ja3 @rdR.eq_1 hz.symm @hor))
  refine At.of (k+1) (by omega) (by omega) rfl rfl ?_ ?_ ?_
  ·simp only;omega
  iterate 2 (case _=>(first | exact yU (ja2 @rdR.eq_1 @Int.add_assoc) | refine yR (ja2 @rdR.eq_1 @Int.add_assoc) ?_))
 ·simp only [decide_eq_false_iff_not] at h
  obtain rfl:k=n:=by omega
  repeat (first | refine zR @rdR.eq_1 ?_ | exact zU @rdR.eq_1)
  omega
theorem Zjc [Tabs Tryz.prog] (nl:Bool) (b:List UInt8) (hl:b.length≤1000000) (i:Nat) (hi:i≤8*b.length) :
  HCon Tryz.prog Zdo [.op 1000 0 0] [.row false (rdR nl b i)] (.tup []) [(1000,0,.row false (rdR nl b ((i+7) / 8*8)))] 1:=by
 refine HCon.of' mix Tryz.func98 rfl Tryz.ntmps98 Zku Zkv (by simp) (by simp [AV.gl,AV.gl.glL]) Zgj ?_
 unfold ZfY
 obtain ⟨m,hm⟩:∃ m,m=i+7:=⟨_,rfl⟩
 have e:(i:Int)+8-1=(m:Int):=by omega
 rw [←hm]
 repeat (first | refine zR (ja2 @rdR.eq_1 @e) ?_ | exact zU (ja2 @rdR.eq_1 @e))
 refine ⟨rfl,?_⟩
 rw [Int.natCast_mul];rfl
def ZF1 (len i:Nat) (n:Int):Bool:=decide (0≤n∧n≤((len-(i+7) / 8:Nat):Int))
set_option maxRecDepth 100000 in
theorem Zq9 [Tabs Tryz.prog] (nl:Bool) (b:List UInt8) (hl:b.length≤1000000) (i:Nat) (hi:i≤8*b.length) (n:Int) (hn:ZF1 b.length i n=false) :
  HCon Tryz.prog Zdp [.op 1000 0 0,int n] [.row false (rdR nl b i)] (.tup [.sc (.slice none 0 0),boo false]) [(1000,0,.row false (rdR nl b ((i+7) / 8*8)))] 10:=by
 refine HCon.of' mix Tryz.func99 rfl Tryz.ntmps99 ZfZ Zf0 (by simp) (by simp [AV.gl,AV.gl.glL,int]) Zgj ?_
 unfold Zdr
 have hn':=of_decide_eq_false hn
 obtain ⟨j,hj⟩:∃ j,j=(i+7) / 8:=⟨_,rfl⟩
 rw [←hj] at hn' ⊢
 repeat (first | refine zS ?_ | exact zT)
 refine Zag [(1000,0)] 2000 (Zjc nl b hl i hi) (by simp) (by simp) ?_ ?_ ?_
 iterate 2 (case _=>(first | exact yU @rdR.eq_1 | refine yR @rdR.eq_1 ?_))
 rw [←hj]
 by_cases c1:n<0
 ·have d1:=decide_eq_true c1
  repeat (first | refine zR (ja2 @d1 @rdR.eq_1) ?_ | exact zU (ja2 @d1 @rdR.eq_1))
 have d1:=decide_eq_false c1
 have d3:decide (((8*b.length-j*8:Nat):Int) / 8<n)=true:=decide_eq_true (by omega)
 have d3':decide ((((8*b.length-j*8) / 8:Nat):Int)<n)=true:=decide_eq_true (by omega)
 repeat (first | refine zR (ja2 @d1 @rdR.eq_1) ?_ | exact zU (ja2 @d1 @rdR.eq_1))
 refine Zag [(1000,0)] 3000 (Zgb nl b hl (j*8) (by omega)) (by simp) (by simp) ?_ ?_ ?_
 iterate 2 (case _=>(first | exact yU @rdR.eq_1 | refine yR @rdR.eq_1 ?_))
 repeat (first | refine zR (ja2 @d3' @rdR.eq_1) ?_ | exact zU (ja2 @d3' @rdR.eq_1))
set_option maxRecDepth 100000 in
theorem ZsE [Tabs Tryz.prog] (nl:Bool) (b:List UInt8) (hl:b.length≤1000000) (hnl:nl=true→b=[]) (i:Nat) (hi:i≤8*b.length) (j:Nat) (hj:j=(i+7) / 8) (n:Nat) (hn:n+j≤b.length) :
  HCon Tryz.prog Zdp [.op 1000 0 0,int (n:Int)] [.row false (rdR nl b i)] (.tup [.sl nl none (((b.drop j).take n).map u8),boo true]) [(1000,0,.row false (rdR nl b (8*(j+n))))] 10:=by
 refine HCon.of' mix Tryz.func99 rfl Tryz.ntmps99 ZfZ Zf0 (by simp) (by simp [AV.gl,AV.gl.glL,int]) Zgj ?_
 unfold Zdr
 repeat (first | refine zS ?_ | exact zT)
 refine Zag [(1000,0)] 2000 (Zjc nl b hl i hi) (by simp) (by simp) ?_ ?_ ?_
 iterate 2 (case _=>(first | exact yU @rdR.eq_1 | refine yR @rdR.eq_1 ?_))
 rw [←hj]
 have d1:decide ((n:Int)<0)=false:=decide_eq_false (by omega)
 have d3:decide ((((8*b.length-j*8) / 8:Nat):Int)<(n:Int))=false:=decide_eq_false (by omega)
 have hnl':nl=true→(b.drop j).take n=[]:=fun h=>by rw [hnl h];simp
 have e2:j*8 / 8=j:=by omega
 have hl2:((b.drop j).take n).length≤1000000:=by rw [List.length_take,List.length_drop];omega
 have hdt:(b.take (j+n)).drop j=(b.drop j).take n:=by rw [List.drop_take];congr 1;omega
 have e3:8*(j+n)=j*8+n*8:=by omega
 rw [e3]
 repeat (first | refine zR (ja2 @d1 @rdR.eq_1) ?_ | exact zU (ja2 @d1 @rdR.eq_1))
 refine Zag [(1000,0)] 3000 (Zgb nl b hl (j*8) (by omega)) (by simp) (by simp) ?_ ?_ ?_
 iterate 2 (case _=>(first | exact yU @rdR.eq_1 | refine yR @rdR.eq_1 ?_))
 repeat (first | refine zR (ja4 @d3 @rdR.eq_1 @e2 @hdt) ?_ | exact zU (ja4 @d3 @rdR.eq_1 @e2 @hdt))
 refine Zay _ (.inl ⟨by simp only [AV.free,AV.free.freeL,Zak,Bool.and_self],ZlF nl _ hl2 hnl'⟩) ?_
 repeat (first | refine zR @rdR.eq_1 ?_ | exact zU @rdR.eq_1)
 rw [Int.natCast_mul n 8];rfl
set_option maxRecDepth 100000 in
theorem ZsF [Tabs Tryz.prog] (nl:Bool) (b:List UInt8) (hl:b.length≤1000000) (i n:Nat) (hn:i+n≤b.length) :
  HCon Tryz.prog Zcz [.op 1000 0 0,int (n:Int)] [.row false (rdR nl b i)] (.tup [.sl nl none (((b.drop i).take n).map u8),int 0]) [(1000,0,.row false (rdR nl b (i+n)))] 1:=by
 refine HCon.of' mix Tryz.func114 rfl Tryz.ntmps114 ZgB ZgC (by simp) (by simp [AV.gl,AV.gl.glL,int]) Zgj ?_
 unfold ZdX
 have d1:decide ((b.length:Int)-(i:Int)<(n:Int))=false:=decide_eq_false (by omega)
 have hdt:(b.take (i+n)).drop i=(b.drop i).take n:=by rw [List.drop_take];congr 1;omega
 have hc:((i:Int)+(n:Int)).toNat=i+n:=by omega
 have he:((i+n:Nat):Int)=(i:Int)+(n:Int):=by omega
 repeat (first | refine zR (ja6 @rdR.eq_1 @d1 @hc @hdt @he @List.length_map.{0,0}) ?_ | exact zU (ja6 @rdR.eq_1 @d1 @hc @hdt @he @List.length_map.{0,0}))
 all_goals trace_state
set_option maxRecDepth 100000 in
theorem ZAj [Tabs Tryz.prog] (nl:Bool) (b:List UInt8) (hl:b.length≤1000000) (i k:Nat) (hk:Lib.indexByte (b.drop i) 0=(k:Int)) (hn:i+k<b.length) :
  HCon Tryz.prog ZdR [.op 1000 0 0] [.row false (rdR nl b i)] (.tup [.sl nl none (((b.drop i).take k).map u8),int 0]) [(1000,0,.row false (rdR nl b (i+(k+1))))] 1:=by
 refine HCon.of' mix Tryz.func118 rfl Tryz.ntmps118 Zln Zlo (by simp) (by simp [AV.gl,AV.gl.glL,int]) Zgj ?_
 unfold ZgE
 have p1:=Zmy nl (b.drop i) (fun e=>by have:=congrArg List.length e;rw [List.length_drop,List.length_nil] at this;omega) 0
 rw [hk] at p1
 have d1:decide ((k:Int)<0)=false:=decide_eq_false (by omega)
 have hdt:(b.take (i+k)).drop i=(b.drop i).take k:=by rw [List.drop_take];congr 1;omega
 have hc:((i:Int)+(k:Int)).toNat=i+k:=by omega
 have he:((i+(k+1):Nat):Int)=(i:Int)+((k:Int)+1):=by omega
 have htl:b.take b.length=b:=List.take_length
 repeat (first | refine zR (ja3 @rdR.eq_1 @List.length_map.{0,0} @htl) ?_ | exact zU (ja3 @rdR.eq_1 @List.length_map.{0,0} @htl))
 refine Zay _ (.inl ⟨by simp only [AV.free,AV.free.freeL,Zak,Bool.and_self],p1⟩) ?_
 repeat (first | refine zR (ja6 @rdR.eq_1 @d1 @hc @hdt @he @List.length_map.{0,0}) ?_ | exact zU (ja6 @rdR.eq_1 @d1 @hc @hdt @he @List.length_map.{0,0}))
 all_goals trace_state
set_option maxRecDepth 100000 in
theorem ZAk [Tabs Tryz.prog] (nl:Bool) (b:List UInt8) (hl:b.length≤1000000) (i k:Nat) (hk:Lib.indexByte (b.drop i) 0=(k:Int)) (hn:i+k<b.length) (h2:k≤200) (nm:List UInt8) (hnm:(b.drop i).take k=nm) :
  HCon Tryz.prog Zgo [.op 1000 0 0] [.row false (rdR nl b i)] (.tup [str nm,int 0]) [(1000,0,.row false (rdR nl b (i+(k+1))))] 5:=by
 refine HCon.of' mix Tryz.func117 rfl Tryz.ntmps117 Zll Zlm (by simp) (by simp [AV.gl,AV.gl.glL,int]) Zgj ?_
 unfold ZgD
 have p1:=ZAj nl b hl i k hk hn
 rw [hnm] at p1
 have hnl:nm.length=k:=by rw [←hnm,List.length_take,List.length_drop];omega
 have d1:decide ((200:Int)<(k:Int))=false:=decide_eq_false (by omega)
 repeat (first | refine zS ?_ | exact zT)
 refine Zag [(1000,0)] 2000 p1 (by simp) (by simp) ?_ ?_ ?_
 iterate 2 (case _=>(first | exact yU @rdR.eq_1 | refine yR @rdR.eq_1 ?_))
 repeat (first | refine zR (ja4 @rdR.eq_1 @d1 @List.length_map.{0,0} @hnl) ?_ | exact zU (ja4 @rdR.eq_1 @d1 @List.length_map.{0,0} @hnl))
 all_goals trace_state
set_option maxRecDepth 100000 in
theorem Zx6 [Tabs Tryz.prog] (nl:Bool) (b:List UInt8) (i:Nat) :
  HCon Tryz.prog ZcA [.op 1000 0 0,.sc (.int .u8 0)] [.row false (rdR nl b i)] (.tup [str [],int 0]) [(1000,0,.row false (rdR nl b i))] 10:=by
 refine HCon.of' mix Tryz.func74 rfl Tryz.ntmps74 Zgw Zgx (by simp) (by simp [AV.gl,AV.gl.glL,int]) Zgj ?_
 unfold ZdV
 repeat (first | refine zR @rdR.eq_1 ?_ | exact zU @rdR.eq_1)
 all_goals trace_state
set_option maxRecDepth 100000 in
theorem Zx7 [Tabs Tryz.prog] (nl:Bool) (b:List UInt8) (hl:b.length≤1000000) (i k:Nat) (hk:Lib.indexByte (b.drop i) 0=(k:Int)) (hn:i+k<b.length) (h2:k≤200) (nm:List UInt8) (hnm:(b.drop i).take k=nm) :
  HCon Tryz.prog ZcA [.op 1000 0 0,.sc (.int .u8 8)] [.row false (rdR nl b i)] (.tup [str nm,int 0]) [(1000,0,.row false (rdR nl b (i+(k+1))))] 10:=by
 refine HCon.of' mix Tryz.func74 rfl Tryz.ntmps74 Zgw Zgx (by simp) (by simp [AV.gl,AV.gl.glL,int]) Zgj ?_
 unfold ZdV
 have p1:=ZAk nl b hl i k hk hn h2 nm hnm
 repeat (first | refine zS ?_ | exact zT)
 refine Zag [(1000,0)] 2000 p1 (by simp) (by simp) ?_ ?_ ?_
 iterate 2 (case _=>(first | exact yU @rdR.eq_1 | refine yR @rdR.eq_1 ?_))
 repeat (first | refine zR @rdR.eq_1 ?_ | exact zU @rdR.eq_1)
 all_goals trace_state
theorem ZF2 {n:Nat} (h:n<4294967296):leN (leB n 4)=n:=by
 rw [ZGU]
 simp [leN,beN]
 omega
theorem ZHU {nm:List UInt8} {mt:Nat} {R:List UInt8}:((hdB nm mt++R).drop 0).take 10=31::139::8::(if nm=[] then 0 else 8)::(leB mt 4++[0,3]):=by
 rw [List.drop_zero,hdB,ZGU]
 rfl
set_option maxRecDepth 100000 in
theorem ZAl [Tabs Tryz.prog] (nl:Bool) (nm:List UInt8) (mt:Nat) (hm:mt<4294967296) (R b:List UInt8) (hb:b=hdB nm mt++R) (hl:b.length≤1000000) (fl:UInt8) (hfl:fl=if nm=[] then 0 else 8) :
  HCon Tryz.prog ZdQ [.op 1000 0 0] [.row false (rdR nl b 0)] (.tup [u8 fl,int (mt:Int),int 0]) [(1000,0,.row false (rdR nl b 10))] 5:=by
 refine HCon.of' mix Tryz.func73 rfl Tryz.ntmps73 Zgu Zgv (by simp) (by simp [AV.gl,AV.gl.glL,int]) Zgj ?_
 unfold ZdU
 have hlen:=ZoG (nm:=nm) (mt:=mt)
 have p1:=ZsF nl b hl 0 10 (by rw [hb,List.length_append];omega)
 have hw:(b.drop 0).take 10=31::139::8::fl::(leB mt 4++[0,3]):=by rw [hb,hfl];exact ZHU
 have p2:=Zq5 nl (31::139::8::fl::(leB mt 4++[0,3])) (by simp [leB]) 4 4
 have hr:Zm8 (31::139::8::fl::(leB mt 4++[0,3])) 4 4 = .tup [.sc (.int .u64 (mt:Int)),boo true]:=by
  have e1:((31::139::8::fl::(leB mt 4++[0,3])).drop 4).take 4=leB mt 4:=by rw [ZGU];rfl
  have e2:stB (31::139::8::fl::(leB mt 4++[0,3])).length 4 4=true:=by
   simp [leB,stB]
  unfold Zm8
  rw [if_pos e2,show ((4:Int).toNat)=4 from rfl,e1,ZF2 hm]
 rw [hr] at p2
 rw [hw] at p1
 obtain ⟨V,hV⟩:∃ V,V=leB mt 4++[0,3]:=⟨_,rfl⟩
 have hVl:V.length=6:=by rw [hV,List.length_append,ZaS];rfl
 rw [←hV] at p1 p2
 have hwr:IntKind.i64.wrap (mt:Int)=(mt:Int):=ZbI (by omega) (by omega)
 have hf8:fl=0∨fl=8:=by by_cases c:nm=[];exact .inl (by rw [hfl,if_pos c]);exact .inr (by rw [hfl,if_neg c])
 obtain ⟨F,hF⟩:∃ F:Int,F=(fl.toNat:Int):=⟨_,rfl⟩
 clear hfl hw hr hb hlen
 rcases hf8 with rfl | rfl
 all_goals
  repeat (first | refine zS ?_ | exact zT)
  refine Zag [(1000,0)] 2000 p1 (by simp) (by simp) ?_ ?_ ?_
  iterate 2 (case _=>(first | exact yU @rdR.eq_1 | refine yR @rdR.eq_1 ?_))
  repeat (first | refine zR (ja3 @rdR.eq_1 @hVl @List.length_map.{0,0}) ?_ | exact zU (ja3 @rdR.eq_1 @hVl @List.length_map.{0,0}))
  refine Zay _ (.inl ⟨by simp only [AV.free,AV.free.freeL,Zak,Bool.and_self],p2⟩) ?_
  repeat (first | refine zR (ja4 @rdR.eq_1 @hVl @hwr @List.length_map.{0,0}) ?_ | exact zU (ja4 @rdR.eq_1 @hVl @hwr @List.length_map.{0,0}))
  all_goals trace_state
set_option maxRecDepth 100000 in
theorem ZAm [Tabs Tryz.prog] (nl:Bool) (b:List UInt8) (hl:b.length≤1000000) (i:Nat) (R:List UInt8) (hR:b.drop i=R) (h4:R.length≤4096) (hi:i≤b.length) (room:Int) (nd:Bool) (D:List UInt8) (used:Nat)
  (hI:Con Tryz.prog Zbk [.sl nl none (R.map u8),int room] (.tup [.sl nd none (D.map u8),int (used:Int),int 0])) (hu:used≤R.length) :
  HCon Tryz.prog Zcy [.op 1000 0 0,int room] [.row false (rdR nl b i)] (.tup [.sl nd none (D.map u8),int 0]) [(1000,0,.row false (rdR nl b (i+used)))] 5:=by
 refine HCon.of' mix Tryz.func75 rfl Tryz.ntmps75 Zgy Zgz (by simp) (by simp [AV.gl,AV.gl.glL,int]) Zgj ?_
 unfold ZdW
 have hRl:R.length=b.length-i:=by rw [←hR,List.length_drop]
 have htl:b.take b.length=b:=List.take_length
 have htR:R.take R.length=R:=List.take_length
 have d1:((4096:Int)<(R.length:Int))=False:=eq_false (by omega)
 have d2:((R.length:Int)<4096)=True∨R.length=4096:=by
  by_cases c:R.length=4096
  ·exact .inr c
  ·exact .inl (eq_true (by omega))
 have hm:(if (R.length:Int)<4096 then (R.length:Int) else 4096)=(R.length:Int):=by split <;> omega
 have he:((i+used:Nat):Int)=(i:Int)+(used:Int):=by omega
 repeat (first | refine zR (ja4 @rdR.eq_1 @List.length_map.{0,0} @htl hR) ?_ | exact zU (ja4 @rdR.eq_1 @List.length_map.{0,0} @htl hR))
 refine SWp.unroll ?_
 repeat (first | refine zR (ja4 @rdR.eq_1 @List.length_map.{0,0} @htR @hm) ?_ | exact zU (ja4 @rdR.eq_1 @List.length_map.{0,0} @htR @hm))
 refine Zay _ (.inl ⟨by simp only [AV.free,AV.free.freeL,Zak,int,Bool.and_self],hI⟩) ?_
 repeat (first | refine zR (ja3 @rdR.eq_1 @List.length_map.{0,0} @he) ?_ | exact zU (ja3 @rdR.eq_1 @List.length_map.{0,0} @he))
theorem ZHV:∀ {t:List UInt8},t.length=8→Zfm (.agg #[.int .u8 0,.int .u8 0,.int .u8 0,.int .u8 0,.int .u8 0,.int .u8 0,.int .u8 0,.int .u8 0]) (.agg (t.map u8))=True
 | [a,b,c,d,e,f,g,h],_=>by
  have:=a.toNat_lt;have:=b.toNat_lt;have:=c.toNat_lt;have:=d.toNat_lt
  have:=e.toNat_lt;have:=f.toNat_lt;have:=g.toNat_lt;have:=h.toNat_lt
  have k1:IntKind.u8.min=0:=rfl
  have k2:IntKind.u8.max=255:=rfl
  refine eq_true ?_
  simp only [Zfm,ZrL,Zn0,List.map_cons,List.map_nil,u8,k1,k2,and_true,true_and]
  omega
theorem ZF3 {a b:List UInt8} (h:a.map u8=b.map u8):a=b:=(List.map_inj_right (fun x y e=>by simp only [u8,AV.sc.injEq,Value.int.injEq,true_and] at e;exact UInt8.toNat_inj.1 (by omega))).1 h
set_option maxRecDepth 100000 in
theorem Zx8 [Tabs Tryz.prog] (nl:Bool) (b:List UInt8) (hl:b.length≤1000000) (i:Nat) (hi:i+8≤b.length) (nd:Bool) (D:List UInt8) (hD:D.length≤1000000) (t:List UInt8) (ht:(b.drop i).take 8=t) (e:Int) (he:e=if t=tlB D then 0 else 5) :
  HCon Tryz.prog Zgp [.op 1000 0 0,.sl nd none (D.map u8)] [.row false (rdR nl b i)] (int e) [(1000,0,.row false (rdR nl b (i+8)))] 10:=by
 refine HCon.of' mix Tryz.func76 rfl Tryz.ntmps76 Zlj Zlk (by simp) (by simp only [AV.gl,AV.gl.glL,and_true];exact ⟨by omega,Zae _ _ Zak⟩) Zgj ?_
 unfold ZgA
 have p1:=ZsF nl b hl i 8 hi
 rw [ht] at p1
 have htl:t.length=8:=by rw [←ht,List.length_take,List.length_drop];omega
 have p2:=ZsC nd D hD
 have hTl:(tlB D).length=8:=by rw [tlB,List.length_append,ZaS,ZaS]
 have l1:=ZHV htl
 have l2:=ZHV hTl
 have hq:eqB (.agg (t.map u8)) (.agg ((tlB D).map u8))=decide (t=tlB D):=by
  by_cases c:t=tlB D
  ·rw [decide_eq_true c];exact ZER (by rw [c])
  ·rw [decide_eq_false c]
   exact ZG0 (fun e=>c (ZF3 (by injection e)))
 obtain ⟨T,hT⟩:∃ T,T=tlB D:=⟨_,rfl⟩
 rw [←hT] at p2 hTl l2 hq he
 have t8:(t.map u8).take 8=t.map u8:=List.take_of_length_le (by simp;omega)
 have hc:((i+8:Nat):Int)=(i:Int)+8:=by omega
 repeat (first | refine zS ?_ | exact zT)
 refine Zag [(1000,0)] 2000 p1 (by simp) (by simp) ?_ ?_ ?_
 iterate 2 (case _=>(first | exact yU @rdR.eq_1 | refine yR @rdR.eq_1 ?_))
 repeat (first | refine zR (ja4 @rdR.eq_1 @htl @t8 @List.length_map.{0,0}) ?_ | exact zU (ja4 @rdR.eq_1 @htl @t8 @List.length_map.{0,0}))
 refine Zay _ (.inl ⟨by simp only [AV.free,AV.free.freeL,Zak,Bool.and_self],p2⟩) ?_
 by_cases c:t=T
 ·rw [decide_eq_true c] at hq
  rw [if_pos c] at he
  subst he
  repeat (first | refine zR (ja7 @rdR.eq_1 @hq @l1 @l2 @htl @t8 @List.length_map.{0,0}) ?_ | exact zU (ja7 @rdR.eq_1 @hq @l1 @l2 @htl @t8 @List.length_map.{0,0}))
 ·rw [decide_eq_false c] at hq
  rw [if_neg c] at he
  subst he
  repeat (first | refine zR (ja7 @rdR.eq_1 @hq @l1 @l2 @htl @t8 @List.length_map.{0,0}) ?_ | exact zU (ja7 @rdR.eq_1 @hq @l1 @l2 @htl @t8 @List.length_map.{0,0}))
theorem Zx9 {nm R:List UInt8} (h:Lib.indexByte nm 0<0):Lib.indexByte (nm++0::R) 0=(nm.length:Int):=by
 refine ZpA _ _ _ (by simp) (by simp [List.getD]) fun k hk e=>?_
 have he:nm.getD k 0=0:=by simpa [List.getD,List.getElem?_append_left hk] using e
 have:∃ j:Nat,Lib.indexByte nm 0=(j:Int):=by
  have key:∀ (l:List UInt8) (k:Nat),k<l.length→l.getD k 0=0→0≤Lib.indexByte l 0:=by
   intro l
   induction l with
   | nil=>intro k hk;simp at hk
   | cons x l ih =>
    intro k hk e
    simp only [Lib.indexByte]
    split
    ·omega
    ·rename_i hx
     cases k with
     | zero=>simp only [List.getD_cons_zero] at e;subst e;simp at hx
     | succ k =>
      have:=ih k (by simpa using hk) (by simpa using e)
      split
      ·rename_i h1
       have h1:Lib.indexByte l 0=-1:=by simpa using h1
       omega
      ·omega
  exact ⟨(Lib.indexByte nm 0).toNat,by have:=key nm k hk he;omega⟩
 obtain ⟨j,hj⟩:=this
 omega
def ZvB (ok:Bool) (nm:List UInt8) (mt:Nat) (nd:Bool) (D:List UInt8):AV:=if ok then .tup [.agg [str nm,int (mt:Int),.sl nd none (D.map u8)],int 0] else .tup [.agg [str [],int 0,.sc (.slice none 0 0)],int 5]
set_option maxHeartbeats 1000000 in
set_option maxRecDepth 100000 in
theorem ZoH [Tabs Tryz.prog] (nl:Bool) (nm:List UInt8) (hn:nm.length≤200) (hz:Lib.indexByte nm 0<0) (mt:Nat) (hm:mt<4294967296) (R b:List UInt8) (hb:b=hdB nm mt++R) (hl:b.length≤1000000) (room:Int) (nd:Bool) (D:List UInt8) (hD:D.length≤1000000) (used:Nat)
  (p3:HCon Tryz.prog Zcy [.op 1000 0 0,int room] [.row false (rdR nl b (hdB nm mt).length)] (.tup [.sl nd none (D.map u8),int 0]) [(1000,0,.row false (rdR nl b ((hdB nm mt).length+used)))] 5) (hu:used+8≤R.length) (ok:Bool) (hok:ok=decide ((R.drop used).take 8=tlB D)) :
  HCon Tryz.prog Zb7 [.op 1000 0 0,int room] [.row false (rdR nl b 0)] (ZvB ok nm mt nd D) [(1000,0,.row false (rdR nl b ((hdB nm mt).length+used+8)))] 40:=by
 refine HCon.of' mix Tryz.func43 rfl Tryz.ntmps43 Zfd Zfe (by simp) (by simp [AV.gl,AV.gl.glL,int]) Zgj ?_
 unfold Zc6
 have hbl:b.length=(hdB nm mt).length+R.length:=by rw [hb,List.length_append]
 obtain ⟨p,hp⟩:∃ p,p=(hdB nm mt).length:=⟨_,rfl⟩
 have hdp:b.drop p=R:=by rw [hb,hp,List.drop_left]
 have p1:=ZAl nl nm mt hm R b hb hl _ rfl
 have p4:=Zx8 nl b hl (p+used) (by omega) nd D hD _ rfl _ rfl
 rw [←List.drop_drop,hdp] at p4
 rw [←hp] at p3 ⊢
 have p2:HCon Tryz.prog ZcA [.op 1000 0 0,u8 (if nm=[] then 0 else 8)] [.row false (rdR nl b 10)] (.tup [str nm,int 0]) [(1000,0,.row false (rdR nl b p))] 10:=by
  by_cases c:nm=[]
  ·subst c
   have hp10:p=10:=by rw [hp,hdB,ZGU];rfl
   rw [if_pos rfl,hp10]
   exact Zx6 nl b 10
  ·have hp11:p=10+(nm.length+1):=by
    rw [hp,hdB,ZGU,if_neg c,if_neg c]
    simp only [List.length_cons,List.length_append,List.length_nil];omega
   have hd10:b.drop 10=nm++0::R:=by
    rw [hb,hdB,ZGU,if_neg c,if_neg c]
    simp
   rw [if_neg c,hp11]
   exact Zx7 nl b hl 10 nm.length (by rw [hd10];exact Zx9 hz) (by omega) hn nm (by rw [hd10];exact List.take_left)
 obtain ⟨fl,hfl⟩:∃ fl:UInt8,fl=if nm=[] then 0 else 8:=⟨_,rfl⟩
 rw [←hfl] at p1 p2
 repeat (first | refine zS ?_ | exact zT)
 refine Zag [(1000,0)] 2000 p1 (by simp) (by simp) ?_ ?_ ?_
 iterate 2 (case _=>(first | exact yU @rdR.eq_1 | refine yR @rdR.eq_1 ?_))
 repeat (first | refine zR @rdR.eq_1 ?_ | exact zU @rdR.eq_1)
 refine Zag [(1000,0)] 3000 p2 (by simp) (by simp) ?_ ?_ ?_
 iterate 2 (case _=>(first | exact yU @rdR.eq_1 | refine yR @rdR.eq_1 ?_))
 repeat (first | refine zR @rdR.eq_1 ?_ | exact zU @rdR.eq_1)
 refine Zag [(1000,0)] 4000 p3 (by simp) (by simp) ?_ ?_ ?_
 iterate 2 (case _=>(first | exact yU @rdR.eq_1 | refine yR @rdR.eq_1 ?_))
 repeat (first | refine zR @rdR.eq_1 ?_ | exact zU @rdR.eq_1)
 refine Zag [(1000,0)] 5000 p4 (by simp) (by simp) ?_ ?_ ?_
 iterate 2 (case _=>(first | exact yU @rdR.eq_1 | refine yR @rdR.eq_1 ?_))
 by_cases c:(R.drop used).take 8=tlB D
 ·rw [decide_eq_true c] at hok
  subst hok
  rw [if_pos c]
  repeat (first | refine zR (ja2 @rdR.eq_1 @ZvB.eq_1) ?_ | exact zU (ja2 @rdR.eq_1 @ZvB.eq_1))
 ·rw [decide_eq_false c] at hok
  subst hok
  rw [if_neg c]
  repeat (first | refine zR (ja2 @rdR.eq_1 @ZvB.eq_1) ?_ | exact zU (ja2 @rdR.eq_1 @ZvB.eq_1))
theorem ZuB [Tabs Tryz.prog] (nl:Bool) (nm:List UInt8) (hn:nm.length≤200) (hz:Lib.indexByte nm 0<0) (mt:Nat) (hm:mt<4294967296) (R b:List UInt8) (hb:b=hdB nm mt++R) (hl:b.length≤1000000) (h4:R.length≤4096) (room:Int) (nd:Bool) (D:List UInt8) (hD:D.length≤1000000) (used:Nat)
  (hI:Con Tryz.prog Zbk [.sl nl none (R.map u8),int room] (.tup [.sl nd none (D.map u8),int (used:Int),int 0])) (hu:used+8≤R.length) (ok:Bool) (hok:ok=decide ((R.drop used).take 8=tlB D)) :
  HCon Tryz.prog Zb7 [.op 1000 0 0,int room] [.row false (rdR nl b 0)] (ZvB ok nm mt nd D) [(1000,0,.row false (rdR nl b ((hdB nm mt).length+used+8)))] 40 :=
 ZoH nl nm hn hz mt hm R b hb hl room nd D hD used (ZAm nl b hl _ R (by rw [hb,List.drop_left]) h4 (by rw [hb,List.length_append];omega) room nd D used hI (by omega)) hu ok hok
def Zhw (L:List Nat) (k:Nat):UInt8:=UInt8.ofNat (Zg1 ((L.drop (8*k)).take 8))
def Zat (L:List Nat):List UInt8:=(List.range ((L.length+7) / 8)).map (Zhw L)
theorem Za3 {L:List Nat}:(Zat L).length=(L.length+7) / 8:=by simp [Zat]
theorem Zic {L M:List Nat} {k:Nat} (h:8*k+8≤L.length):Zhw (L++M) k=Zhw L k:=by
 unfold Zhw
 rw [List.drop_append_of_le_length (by omega),List.take_append_of_le_length (by rw [List.length_drop];omega)]
theorem ZsG {L:List Nat} {x:Nat} (h:L.length % 8=0):Zat (L++[x])=Zat L++[UInt8.ofNat x]:=by
 unfold Zat
 rw [List.length_append,List.length_singleton,show (L.length+1+7) / 8=(L.length+7) / 8+1 by omega,List.range_succ,List.map_append]
 congr 1
 ·refine List.map_congr_left fun k hk=>?_
  have:=List.mem_range.1 hk
  exact Zic (by omega)
 ·have e:8*((L.length+7) / 8)=L.length:=by omega
  simp only [List.map_cons,List.map_nil,Zhw,e,List.drop_left]
  simp [Zg1]
theorem ZuC {L:List Nat} (h:L.length % 8≠0):(Zat L).getD (L.length / 8) 0=UInt8.ofNat (Zg1 (L.drop (8*(L.length / 8)))):=by
 have hk:L.length / 8<(L.length+7) / 8:=by omega
 have:(L.drop (8*(L.length / 8))).take 8=L.drop (8*(L.length / 8)):=List.take_of_length_le (by rw [List.length_drop];omega)
 simp only [List.getD,Zat,List.getElem?_map,List.getElem?_range hk,Option.map_some,Option.getD_some,Zhw,this]
theorem ZsH {L:List Nat} {x:Nat} (h:L.length % 8≠0):Zat (L++[x])=(Zat L).set (L.length / 8) (UInt8.ofNat (Zg1 (L.drop (8*(L.length / 8)))+2^(L.length % 8)*x)):=by
 apply List.ext_getElem?
 intro k
 have hl:(L++[x]).length=L.length+1:=by simp
 have e:(L.length+1+7) / 8=(L.length+7) / 8:=by omega
 rw [List.getElem?_set,Za3]
 by_cases hk:k<(L.length+7) / 8
 ·have h1:(Zat (L++[x]))[k]? = some (Zhw (L++[x]) k):=by simp [Zat,e,hk]
  have h2:(Zat L)[k]? = some (Zhw L k):=by simp [Zat,hk]
  rw [h1,h2]
  split
  ·rename_i e'
   subst e'
   rw [if_pos hk]
   congr 1
   unfold Zhw
   rw [List.drop_append_of_le_length (by omega),List.take_of_length_le (by rw [List.length_append,List.length_drop,List.length_singleton];omega),ZeF,List.length_drop]
   have:L.length-8*(L.length / 8)=L.length % 8:=by omega
   rw [this];simp [Zg1]
  ·rw [Zic (by omega)]
 ·have h1:(Zat (L++[x]))[k]? = none:=List.getElem?_eq_none (by rw [Za3,hl];omega)
  have h2:(Zat L)[k]? = none:=List.getElem?_eq_none (by rw [Za3];omega)
  rw [h1,h2]
  split
  ·rename_i e'
   rw [e',if_neg hk]
  ·rfl
def Zbq (v n:Nat):List Nat:=(List.range n).map fun k=>v / 2^k % 2
def ZnO (v n:Nat):List Nat:=(List.range n).map fun k=>v / 2^(n-1-k) % 2
theorem Ze3 {v n:Nat}:∀ x∈Zbq v n,x<2:=by
 intro x hx;obtain ⟨k,_,rfl⟩:=List.mem_map.1 hx;exact Nat.mod_lt _ (by omega)
theorem ZuD {v n:Nat}:∀ x∈ZnO v n,x<2:=by
 intro x hx;obtain ⟨k,_,rfl⟩:=List.mem_map.1 hx;exact Nat.mod_lt _ (by omega)
theorem Zap {v n:Nat}:(Zbq v n).length=n:=by simp [Zbq]
theorem Zdx {v n:Nat}:(ZnO v n).length=n:=by simp [ZnO]
theorem ZAn {v n k:Nat} (h:k<n):(Zbq v n).take (k+1)=(Zbq v n).take k++[v / 2^k % 2]:=by
 rw [ZiP (d:=0) (by rw [Zap];exact h)];simp [Zbq,List.getD,h]
theorem ZAo {v n k:Nat} (h:k<n):(ZnO v n).take (k+1)=(ZnO v n).take k++[v / 2^(n-1-k) % 2]:=by
 rw [ZiP (d:=0) (by rw [Zdx];exact h)];simp [ZnO,List.getD,h]
def wt (n:Nat):Nat:=if n=0 then 0 else 32768 / 2^n
def ZaA:List Nat→Nat
 | []=>0
 | n::r=>wt n+ZaA r
theorem Zjd {a b:List Nat}:ZaA (a++b)=ZaA a+ZaA b:=by
 induction a with
 | nil=>simp [ZaA]
 | cons x a ih=>simp only [List.cons_append,ZaA,ih];omega
theorem ZF4 {n:Nat}:wt n≤32768:=by
 unfold wt;split
 ·omega
 ·exact Nat.div_le_self _ _
theorem ZDv {l:List Nat}:ZaA l≤32768*l.length:=by
 induction l with
 | nil=>simp [ZaA]
 | cons x l ih=>simp only [ZaA,List.length_cons];have:=ZF4 (n:=x);omega
theorem Zya {l:List Nat} {k:Nat} (h:k<l.length):ZaA (l.take (k+1))=ZaA (l.take k)+wt (l.getD k 0):=by
 rw [ZiP (d:=0) h,Zjd];simp [ZaA]
theorem Zra {l:List Nat} {k:Nat}:ZaA (l.take k)≤32768*l.length:=by
 refine Nat.le_trans ZDv (Nat.mul_le_mul_left _ ?_)
 rw [List.length_take];omega
set_option maxRecDepth 100000 in
theorem Zje [Tabs Tryz.prog] (nl:Bool) (l:List Nat) (hl:l.length≤1000) (h15:∀ x∈l,x≤15):Con Tryz.prog Zgt [.sl nl none (l.map nA)] (int (ZaA l:Nat)):=by
 refine Con.of' mix Tryz.func134 rfl Tryz.ntmps134 Zsq Zsr (by simp) (by simp only [AV.free,AV.free.freeL,Zab,Bool.and_self]) rfl ?_
 unfold Zm3
 repeat (first | refine zS ?_ | exact zT)
 refine SWp.loop (α:=Nat) (fun k=>mk 20 0 [(3,int (ZaA (l.take k):Nat)),(6,.sl nl none (l.map nA)),(7,int l.length),(8,int k)] [])
  (fun k=>k≤l.length) (fun k=>l.length-k) 0 (Nat.zero_le _) (Zau rfl ?_ ?_ ?_) ?_
 ·exact Nat.le_refl _
 iterate 2 (case _=>(first | exact yU (ja3 @List.take_zero.{0} @ZaA.eq_1 @ZaA.eq_2) | refine yR (ja3 @List.take_zero.{0} @ZaA.eq_1 @ZaA.eq_2) ?_))
 rintro k hk -
 repeat (first | refine zS ?_ | exact zT)
 refine SWp.cond rfl (fun h=>?_) (fun h=>?_)
 ·simp only [decide_eq_true_eq] at h
  have hkl:k<l.length:=by omega
  have hs:=Zya hkl
  have hle:=Zra (l:=l) (k:=k)
  have hx15:l.getD k 0≤15:=by
   have:l.getD k 0=l[k]:=by simp [List.getD,List.getElem?_eq_getElem hkl]
   rw [this];exact h15 _ (List.getElem_mem hkl)
  obtain ⟨x,hx⟩:∃ x,x=l.getD k 0:=⟨_,rfl⟩
  rw [←hx] at hs hx15
  obtain ⟨y,hy⟩:∃ y,y=ZaA (l.take k):=⟨_,rfl⟩
  rw [←hy] at hs hle
  by_cases c0:x=0
  ·subst c0
   have e:ZaA (l.take (k+1))=y:=by rw [hs];simp [wt]
   repeat (first | refine zR (ja3 iR hx.symm hy.symm) ?_ | exact zU (ja3 iR hx.symm hy.symm))
   refine At.of (k+1) (by omega) (by omega) rfl rfl (Nat.le_refl _) ?_ ?_
   iterate 2 (case _=>(first | exact yU @e | refine yR @e ?_))
  ·have d0:decide ((0:Int)<(x:Int))=true:=decide_eq_true (by omega)
   have hw:wt x=32768 / 2^x:=by simp [wt,c0]
   have hw2:=ZF4 (n:=x)
   obtain ⟨z,hz⟩:∃ z,z=32768 / 2^x:=⟨_,rfl⟩
   rw [←hz] at hw
   rw [hw] at hw2
   have e:ZaA (l.take (k+1))=y+z:=by rw [hs,hw]
   repeat (first | refine zR (ja5 iR hx.symm hy.symm @d0 hz.symm) ?_ | exact zU (ja5 iR hx.symm hy.symm @d0 hz.symm))
   refine At.of (k+1) (by omega) (by omega) rfl rfl (Nat.le_refl _) ?_ ?_
   iterate 2 (case _=>(first | exact yU @e | refine yR @e ?_))
 ·simp only [decide_eq_false_iff_not] at h
  obtain rfl:k=l.length:=by omega
  repeat (first | refine zR @List.take_length.{0} ?_ | exact zU @List.take_length.{0})
def ZAp (x:Int):Bool:=decide (0≤x∧x≤15)
def chk (l:List Int):Nat:=if 320<l.length then 4 else if l.all ZAp=false then 1 else if 32768<ZaA (l.map Int.toNat) then 3 else 0
theorem ZAq {l:List Int} {p:Int→Bool} {k:Nat} (hk:k<l.length) (h:(l.take k).all p=true):(l.take (k+1)).all p=p (l.getD k 0):=by
 rw [ZiP (d:=0) hk,List.all_append,h];simp
theorem ZDw {l:List Int} {p:Int→Bool} {k:Nat} (hk:k<l.length) (h:p (l.getD k 0)=false):l.all p=false:=by
 rw [List.all_eq_false]
 refine ⟨l[k],List.getElem_mem hk,?_⟩
 simp [List.getD,List.getElem?_eq_getElem hk] at h
 simp [h]
theorem ZvC {l:List Int} (h:l.all ZAp=true):l.map int=(l.map Int.toNat).map nA∧∀ x∈l.map Int.toNat,x≤15:=by
 have h2:∀ x∈l,0≤x∧x≤15:=fun x hx=>of_decide_eq_true (List.all_eq_true.1 h x hx)
 constructor
 ·rw [List.map_map]
  refine List.map_congr_left fun x hx=>?_
  have:=h2 x hx
  show AV.sc (.int .i64 x)=AV.sc (.int .i64 ((x.toNat:Nat):Int))
  rw [Int.toNat_of_nonneg this.1]
 ·intro y hy
  obtain ⟨x,hx,rfl⟩:=List.mem_map.1 hy
  have:=h2 x hx
  omega
set_option maxRecDepth 100000 in
theorem Zjf [Tabs Tryz.prog] (nl:Bool) (l:List Int) (hl:l.length≤1000):Con Tryz.prog Zgq [.sl nl none (l.map int)] (int (chk l:Nat)):=by
 refine Con.of' mix Tryz.func132 rfl Tryz.ntmps132 Zso Zsp (by simp) (by simp only [AV.free,AV.free.freeL,Zib,Bool.and_self]) rfl ?_
 unfold Zm2
 by_cases c1:320<l.length
 ·have d1:decide ((320:Int)<(l.length:Int))=true:=decide_eq_true (by omega)
  have hc:chk l=4:=if_pos c1
  repeat (first | refine zR (ja2 @d1 @hc) ?_ | exact zU (ja2 @d1 @hc))
 have d1:decide ((320:Int)<(l.length:Int))=false:=decide_eq_false (by omega)
 repeat (first | refine zR @d1 ?_ | exact zU @d1)
 refine SWp.loop (α:=Nat) (fun k=>mk 24 0 [(0,.sl nl none (l.map int)),(8,.sl nl none (l.map int)),(9,int l.length),(10,int k)] [])
  (fun k=>k≤l.length∧(l.take k).all ZAp=true) (fun k=>l.length-k) 0 ⟨Nat.zero_le _,by simp⟩ (Zau rfl ?_ ?_ ?_) ?_
 ·exact Nat.le_refl _
 iterate 2 (case _=>(first | exact yT | refine yS ?_))
 rintro k ⟨hk,ha⟩ -
 repeat (first | refine zS ?_ | exact zT)
 refine SWp.cond rfl (fun h=>?_) (fun h=>?_)
 ·simp only [decide_eq_true_eq] at h
  have hkl:k<l.length:=by omega
  have hs:=ZAq hkl ha
  have hbad:=ZDw (p:=ZAp) hkl
  obtain ⟨x,hx⟩:∃ x,x=l.getD k 0:=⟨_,rfl⟩
  rw [←hx] at hs hbad
  by_cases c2:x<0
  ·have d2:=decide_eq_true c2
   have hc:chk l=1:=by unfold chk;rw [if_neg c1,if_pos (hbad (decide_eq_false (by omega)))]
   repeat (first | refine zR (ja4 iR hx.symm @d2 @hc) ?_ | exact zU (ja4 iR hx.symm @d2 @hc))
  have d2:=decide_eq_false c2
  by_cases c3:15<x
  ·have d3:=decide_eq_true c3
   have hc:chk l=1:=by unfold chk;rw [if_neg c1,if_pos (hbad (decide_eq_false (by omega)))]
   repeat (first | refine zR (ja5 iR hx.symm @d2 @d3 @hc) ?_ | exact zU (ja5 iR hx.symm @d2 @d3 @hc))
  have d3:=decide_eq_false c3
  repeat (first | refine zR (ja4 iR hx.symm @d2 @d3) ?_ | exact zU (ja4 iR hx.symm @d2 @d3))
  refine At.of (k+1) ⟨by omega,by rw [hs];exact decide_eq_true (by omega)⟩ (by omega) rfl rfl (Nat.le_refl _) ?_ ?_
  iterate 2 (case _=>(first | exact yT | refine yS ?_))
 ·simp only [decide_eq_false_iff_not] at h
  obtain rfl:k=l.length:=by omega
  rw [List.take_length] at ha
  obtain ⟨hm,h15⟩:=ZvC ha
  have ht:=Zje nl (l.map Int.toNat) (by rw [List.length_map];exact hl) h15
  rw [←hm] at ht
  repeat (first | refine zS ?_ | exact zT)
  refine Zay _ (.inl ⟨by simp only [AV.free,AV.free.freeL,Zib,Bool.and_self],ht⟩) ?_
  by_cases c4:32768<ZaA (l.map Int.toNat)
  ·have d4:decide ((32768:Int)<(ZaA (l.map Int.toNat):Nat))=true:=decide_eq_true (by omega)
   have hc:chk l=3:=by unfold chk;rw [if_neg c1,if_neg (by rw [ha];simp),if_pos c4]
   repeat (first | refine zR (ja2 @d4 @hc) ?_ | exact zU (ja2 @d4 @hc))
  ·have d4:decide ((32768:Int)<(ZaA (l.map Int.toNat):Nat))=false:=decide_eq_false (by omega)
   have hc:chk l=0:=by unfold chk;rw [if_neg c1,if_neg (by rw [ha];simp),if_neg c4]
   repeat (first | refine zR (ja2 @d4 @hc) ?_ | exact zU (ja2 @d4 @hc))
theorem ZAr {l:List Int} (h:chk l=0):l.length≤320∧l.all ZAp=true∧ZaA (l.map Int.toNat)≤32768:=by
 unfold chk at h
 split at h
 ·omega
 ·split at h
  ·omega
  ·rename_i h1 h2
   split at h
   ·omega
   ·exact ⟨by omega,by simpa using h2,by omega⟩
def ZuE (l:List Int):Bool:=decide (chk l=0)&&decide (ZaA (l.map Int.toNat)=32768)
theorem ZuF [Tabs Tryz.prog] (nl:Bool) (l:List Int) (hl:l.length≤1000):Con Tryz.prog ZfS [.sl nl none (l.map int)] (boo (ZuE l)):=by
 refine Con.of' mix Tryz.func138 rfl Tryz.ntmps138 Zur Zus (by simp) (by simp only [AV.free,AV.free.freeL,Zib,Bool.and_self]) rfl ?_
 unfold ZoC
 have hf:AV.free.freeL [.sl nl none (l.map int)]=true:=by simp only [AV.free,AV.free.freeL,Zib,Bool.and_self]
 repeat (first | refine zS ?_ | exact zT)
 refine Zay _ (.inl ⟨hf,Zjf nl l hl⟩) ?_
 by_cases c:chk l=0
 ·have d:decide (((chk l:Nat):Int)=0)=true:=decide_eq_true (by omega)
  obtain ⟨h1,h2,h3⟩:=ZAr c
  obtain ⟨hm,h15⟩:=ZvC h2
  have ht:=Zje nl (l.map Int.toNat) (by rw [List.length_map];exact hl) h15
  rw [←hm] at ht
  have hb:ZuE l=decide (ZaA (l.map Int.toNat)=32768):=by simp [ZuE,c]
  have hd:decide (((ZaA (l.map Int.toNat):Nat):Int)=32768)=decide (ZaA (l.map Int.toNat)=32768):=decide_eq_decide.2 (by omega)
  repeat (first | refine zR @d ?_ | exact zU @d)
  refine Zay _ (.inl ⟨hf,ht⟩) ?_
  repeat (first | refine zR (ja2 @hb @hd) ?_ | exact zU (ja2 @hb @hd))
 ·have d:decide (((chk l:Nat):Int)=0)=false:=decide_eq_false (by omega)
  have hb:ZuE l=false:=by simp [ZuE,c]
  repeat (first | refine zR (ja2 @d @hb) ?_ | exact zU (ja2 @d @hb))
def r16 (f:Nat→Nat):List Nat:=(List.range 16).map f
theorem Zaz {f:Nat→Nat}:(r16 f).length=16:=by simp [r16]
theorem Zrb {f:Nat→Nat} {k:Nat} (h:k<16):(r16 f).getD k 0=f k:=by simp [r16,List.getD,h]
theorem Zrc {f g:Nat→Nat} {k x:Nat} (h:∀ i,i<16→g i=if i=k then x else f i):(r16 f).set k x=r16 g:=by
 apply List.ext_getElem?
 intro i
 rw [List.getElem?_set,Zaz]
 by_cases hi:i<16
 ·have h1:(r16 f)[i]? = some (f i):=by simp [r16,hi]
  have h2:(r16 g)[i]? = some (g i):=by simp [r16,hi]
  rw [h1,h2,h i hi]
  by_cases e:k=i
  ·subst e;simp [hi]
  ·rw [if_neg e,if_neg (fun h=>e h.symm)]
 ·have h1:(r16 f)[i]? = none:=List.getElem?_eq_none (by rw [Zaz];omega)
  have h2:(r16 g)[i]? = none:=List.getElem?_eq_none (by rw [Zaz];omega)
  rw [h1,h2]
  split
  ·rename_i e;subst e;rw [if_neg hi]
  ·rfl
theorem ZlH {f g:Nat→Nat} (h:∀ i,i<16→f i=g i):r16 f=r16 g:=List.map_congr_left fun i hi=>h i (List.mem_range.1 hi)
theorem Zhx {l:List Nat} {k n:Nat} (h:k<l.length):(l.take (k+1)).count n=(l.take k).count n+(if n=l.getD k 0 then 1 else 0):=by
 rw [ZiP (d:=0) h,List.count_append]
 congr 1
 by_cases e:n=l.getD k 0
 ·rw [if_pos e,←e];simp
 ·rw [if_neg e,List.count_singleton];simp;exact fun h=>e h.symm
theorem Zfw {l:List Nat} {k n:Nat}:(l.take k).count n≤l.length:=Nat.le_trans List.count_le_length (by rw [List.length_take];omega)
def cn (l:List Nat) (n:Nat):Nat:=if n=0 then 0 else l.count n
def fr (l:List Nat):Nat→Nat
 | 0=>0
 | n+1=>2*(fr l n+cn l n)
theorem ZF5 {l:List Nat} {n:Nat}:cn l n≤l.length:=by
 unfold cn;split
 ·omega
 ·exact List.count_le_length
theorem ZHW {l:List Nat} (hl:l.length≤320):∀ {n:Nat},fr l n+640≤640*2^n
 | 0=>by simp [fr]
 | n+1=>by
  have h1:=ZHW hl (n:=n)
  have h2:=ZF5 (l:=l) (n:=n)
  simp only [fr,Nat.pow_succ];omega
theorem ZDx {l:List Nat} (hl:l.length≤320) {n:Nat} (hn:n≤15):fr l n≤20971520:=by
 have h1:=ZHW hl (n:=n)
 have h2:2^n≤32768:=Zcf (n:=n) (m:=15) hn
 omega
set_option maxRecDepth 100000 in
theorem ZiE [Tabs Tryz.prog] (nl:Bool) (l:List Nat) (hl:l.length≤320) (h15:∀ x∈l,x≤15):Con Tryz.prog Ze2 [.sl nl none (l.map nA)] (.agg ((r16 (fr l)).map nA)):=by
 refine Con.of' mix Tryz.func133 rfl Tryz.ntmps133 Znt Znu (by simp) (by simp only [AV.free,AV.free.freeL,Zab,Bool.and_self]) (by simp only [AV.free,Zab]) ?_
 unfold Ziy
 obtain ⟨Z,hZ⟩:∃ Z,Z=r16 fun _=>0:=⟨_,rfl⟩
 have hZl:Z.length=16:=by rw [hZ,Zaz]
 have hz:(List.replicate 16 (Value.int .i64 0)).map AV.sc=Z.map nA:=by rw [hZ];rfl
 have hZd:Z.drop 16=[]:=List.drop_of_length_le (by omega)
 repeat (first | refine xR @hz ?_ | exact xU @hz)
 refine SWp.loop (α:=Nat) (fun k=>mk 37 2 [(2,.op 2 0 0),(3,.op 3 1 0),(8,.sl nl none (l.map nA)),(9,int l.length),(10,int k)] [(2,0,.row false (Z.map nA)),(3,1,.row false ((r16 fun n=>(l.take k).count n).map nA))])
  (fun k=>k≤l.length) (fun k=>l.length-k) 0 (Nat.zero_le _) (Zau rfl ?_ ?_ ?_) ?_
 ·exact Nat.le_refl _
 iterate 2 (case _=>(first | exact vU (ja3 @List.take_zero.{0} @List.count_nil.{0} @hZ) | refine vR (ja3 @List.take_zero.{0} @List.count_nil.{0} @hZ) ?_))
 rintro k hk -
 repeat (first | refine xS ?_ | exact xT)
 refine SWp.cond rfl (fun h=>?_) (fun h=>?_)
 ·simp only [decide_eq_true_eq] at h
  have hkl:k<l.length:=by omega
  have hx15:l.getD k 0≤15:=by
   have:l.getD k 0=l[k]:=by simp [List.getD,List.getElem?_eq_getElem hkl]
   rw [this];exact h15 _ (List.getElem_mem hkl)
  have hcs:∀ n,(l.take (k+1)).count n=(l.take k).count n+(if n=l.getD k 0 then 1 else 0):=fun n=>Zhx hkl
  obtain ⟨x,hx⟩:∃ x,x=l.getD k 0:=⟨_,rfl⟩
  rw [←hx] at hx15 hcs
  have hg:=Zrb (f:=fun n=>(l.take k).count n) (k:=x) (by omega)
  have hcl:=Zfw (l:=l) (k:=k) (n:=x)
  have hset:=Zrc (f:=fun n=>(l.take k).count n) (g:=fun n=>(l.take (k+1)).count n) (k:=x) (x:=(l.take k).count x+1) (fun i hi=>by
   show (l.take (k+1)).count i=_
   rw [hcs]
   by_cases e:i=x
   ·subst e;simp
   ·simp [e])
  obtain ⟨S,hS⟩:∃ S,S=r16 fun n=>(l.take k).count n:=⟨_,rfl⟩
  have hSl:S.length=16:=by rw [hS,Zaz]
  obtain ⟨y,hy⟩:∃ y,y=(l.take k).count x:=⟨_,rfl⟩
  rw [←hS] at hset hg ⊢
  simp only [←hy] at hg hset hcl
  have hsp:=Zcq (l:=S) (k:=x) (x:=y+1) (by omega)
  rw [hset] at hsp
  repeat (first | refine xR (ja3 iR hx.symm @hg) ?_ | exact xU (ja3 iR hx.symm @hg))
  refine At.of (k+1) (by omega) (by omega) rfl rfl (Nat.le_refl _) ?_ ?_
  ·(first | exact vT | refine vS ?_)
  ·(first | exact vT | refine vS ?_)
   exact hsp
 ·simp only [decide_eq_false_iff_not] at h
  obtain rfl:k=l.length:=by omega
  rw [List.take_length]
  have hset:=Zrc (f:=fun n=>l.count n) (g:=cn l) (k:=0) (x:=0) (fun i hi=>rfl)
  obtain ⟨S0,hS0⟩:∃ S,S=r16 fun n=>l.count n:=⟨_,rfl⟩
  have hS0l:S0.length=16:=by rw [hS0,Zaz]
  rw [←hS0] at hset ⊢
  obtain ⟨S,hS⟩:∃ S,S=r16 (cn l):=⟨_,rfl⟩
  have hSl:S.length=16:=by rw [hS,Zaz]
  rw [←hS] at hset
  have hsp:=Zcq (l:=S0) (k:=0) (x:=0) (by omega)
  rw [hset] at hsp
  simp only [List.take_zero,List.map_nil,List.nil_append] at hsp
  have hsp':AV.sc (.int .i64 0)::(S0.drop 1).map nA=S.map nA:=hsp
  repeat (first | refine xR (ja3 iR @hz @hsp') ?_ | exact xU (ja3 iR @hz @hsp'))
  refine SWp.loop (α:=Nat) (fun k=>mk 37 3 [(2,.op 2 0 0),(3,.op 3 1 0),(6,.op 6 2 0),(21,int k)] [(2,0,.row false (Z.map nA)),(3,1,.row false (S.map nA)),(6,2,.row false ((r16 fun n=>if n≤k then fr l n else 0).map nA))])
   (fun k=>k≤15) (fun k=>15-k) 0 (Nat.zero_le _) (Zau rfl ?_ ?_ ?_) ?_
  ·exact Nat.le_refl _
  ·(first | exact vT | refine vS ?_)
  ·(first | exact vT | refine vS ?_)
   rw [hZ]
   exact congrArg (List.map nA) (ZlH fun i _=>by
    by_cases e:i≤0
    ·obtain rfl:i=0:=by omega
     rfl
    ·rw [if_neg e])
  rintro k hk -
  repeat (first | refine xS ?_ | exact xT)
  refine SWp.cond rfl (fun h=>?_) (fun h=>?_)
  ·simp only [decide_eq_true_eq] at h
   have hk15:k<15:=by omega
   have hg:=Zrb (f:=fun n=>if n≤k then fr l n else 0) (k:=k) (by omega)
   rw [if_pos (Nat.le_refl _)] at hg
   have hgs:S.getD k 0=cn l k:=by rw [hS];exact Zrb (by omega)
   have hfl:=ZDx hl (n:=k) (by omega)
   have hcl:=ZF5 (l:=l) (n:=k)
   have hset:=Zrc (f:=fun n=>if n≤k then fr l n else 0) (g:=fun n=>if n≤k+1 then fr l n else 0) (k:=k+1) (x:=(fr l k+cn l k)*2) (fun i hi=>by
    show (if i≤k+1 then fr l i else 0)=if i=k+1 then _ else if i≤k then fr l i else 0
    by_cases e:i=k+1
    ·subst e;rw [if_pos (Nat.le_refl _),if_pos rfl,fr,Nat.mul_comm]
    ·rw [if_neg e]
     by_cases e2:i≤k
     ·rw [if_pos e2,if_pos (by omega)]
     ·rw [if_neg e2,if_neg (by omega)])
   obtain ⟨G,hG⟩:∃ G,G=r16 fun n=>if n≤k then fr l n else 0:=⟨_,rfl⟩
   have hGl:G.length=16:=by rw [hG,Zaz]
   obtain ⟨x,hx⟩:∃ x,x=fr l k:=⟨_,rfl⟩
   obtain ⟨y,hy⟩:∃ y,y=cn l k:=⟨_,rfl⟩
   rw [←hx] at hg hfl hset
   rw [←hy] at hgs hcl hset
   rw [←hG] at hset hg ⊢
   have hsp:=Zcq (l:=G) (k:=k+1) (x:=(x+y)*2) (by omega)
   rw [hset] at hsp
   repeat (first | refine xR (ja3 iR @hg @hgs) ?_ | exact xU (ja3 iR @hg @hgs))
   refine At.of (k+1) (by omega) (by omega) rfl rfl (Nat.le_refl _) ?_ ?_
   ·(first | exact vT | refine vS ?_)
   ·(first | exact vT | refine vS ?_)
    exact hsp
  ·simp only [decide_eq_false_iff_not] at h
   obtain rfl:k=15:=by omega
   have hr:(r16 fun n=>if n≤15 then fr l n else 0)=r16 (fr l):=ZlH fun i hi=>if_pos (by omega)
   rw [hr]
   obtain ⟨F,hF⟩:∃ F,F=r16 (fr l):=⟨_,rfl⟩
   have hFl:F.length=16:=by rw [hF,Zaz]
   rw [←hF]
   repeat (first | refine xR (ja3 iR @hFl @hZd) ?_ | exact xU (ja3 iR @hFl @hZd))
def Zbx (l:List Nat) (i:Nat):Nat:=if l.getD i 0=0 then 0 else fr l (l.getD i 0)+(l.take i).count (l.getD i 0)
def ZbM (l:List Nat):List Nat:=(List.range l.length).map (Zbx l)
theorem Zid {l:List Nat}:(ZbM l).length=l.length:=by simp [ZbM]
theorem ZsI {n:Nat}:(List.replicate n [AV.sc (.int .i64 0)]).flatten=(List.replicate n 0).map nA:=by
 induction n with
 | zero=>rfl
 | succ n ih=>simp only [List.replicate_succ,List.flatten_cons,ih,List.map_cons];rfl
def Zes (l:List Nat) (k:Nat):List Nat:=(List.range l.length).map fun i=>if i<k then Zbx l i else 0
theorem Zea {l:List Nat} {k:Nat}:(Zes l k).length=l.length:=by simp [Zes]
theorem ZuG {l:List Nat}:Zes l 0=List.replicate l.length 0:=by
 apply List.ext_getElem?
 intro i
 by_cases h:i<l.length
 ·simp [Zes,h]
 ·rw [List.getElem?_eq_none (by rw [Zea];omega),List.getElem?_eq_none (by simp;omega)]
theorem Zyb {l:List Nat}:Zes l l.length=ZbM l:=List.map_congr_left fun i hi=>by rw [if_pos (List.mem_range.1 hi)]
theorem Zyc {l:List Nat} {k:Nat} (h:k<l.length):(Zes l k).set k (Zbx l k)=Zes l (k+1):=by
 apply List.ext_getElem?
 intro i
 rw [List.getElem?_set,Zea]
 by_cases hi:i<l.length
 ·have h1:(Zes l k)[i]? = some (if i<k then Zbx l i else 0):=by simp [Zes,hi]
  have h2:(Zes l (k+1))[i]? = some (if i<k+1 then Zbx l i else 0):=by simp [Zes,hi]
  rw [h1,h2]
  by_cases e:k=i
  ·subst e;simp [h]
  ·rw [if_neg e]
   by_cases e2:i<k
   ·rw [if_pos e2,if_pos (by omega)]
   ·rw [if_neg e2,if_neg (by omega)]
 ·have h1:(Zes l k)[i]? = none:=List.getElem?_eq_none (by rw [Zea];omega)
  have h2:(Zes l (k+1))[i]? = none:=List.getElem?_eq_none (by rw [Zea];omega)
  rw [h1,h2,if_neg (by omega)]
theorem ZuH {l:List Nat} {k:Nat} (h:k<l.length) (h0:l.getD k 0=0):Zes l (k+1)=Zes l k:=by
 refine List.map_congr_left fun i hi=>?_
 by_cases e:i=k
 ·subst e;rw [if_pos (by omega),if_neg (by omega),Zbx,if_pos h0]
 ·by_cases e2:i<k
  ·rw [if_pos e2,if_pos (by omega)]
  ·rw [if_neg e2,if_neg (by omega)]
def nxK (l:List Nat) (k:Nat) (n:Nat):Nat:=if n=0 then 0 else fr l n+(l.take k).count n
def st (l:List Nat) (n k:Nat):List Nat:=(List.range l.length).map fun i=>if l.getD i 0<n∨(l.getD i 0=n∧i<k) then Zbx l i else l.getD i 0
def Zej (l:List Nat) (k n:Nat):List Nat:=if n=0 then [] else (List.range k).filter fun s=>decide (l.getD s 0=n)
theorem ZeW {l:List Nat} {k n:Nat} (hn:n≠0):Zej l (k+1) n=if l.getD k 0=n then Zej l k n++[k] else Zej l k n:=by
 unfold Zej
 rw [if_neg hn,if_neg hn,List.range_succ,List.filter_append]
 by_cases e:l.getD k 0=n
 ·rw [if_pos e,List.filter_cons,decide_eq_true e];rfl
 ·rw [if_neg e,List.filter_cons,decide_eq_false e];simp
theorem ZeG {l:List Nat}:∀ {k n:Nat},k≤l.length→(Zej l k n).length=if n=0 then 0 else (l.take k).count n
 | 0,n,_=>by unfold Zej;split <;> simp
 | k+1,n,h=>by
  have ih:=ZeG (l:=l) (k:=k) (n:=n) (by omega)
  by_cases hn:n=0
  ·subst hn;rfl
  ·rw [if_neg hn] at ih ⊢
   rw [ZeW hn,Zhx (by omega)]
   by_cases e:l.getD k 0=n
   ·rw [if_pos e,if_pos e.symm,List.length_append,ih];rfl
   ·rw [if_neg e,if_neg (fun h=>e h.symm),ih];rfl
theorem ZpC {l:List Nat} {k n:Nat} (h:k≤l.length):(Zej l k n).length≤l.length:=by
 rw [ZeG h]
 split
 ·omega
 ·exact Zfw
def trR (l:List Nat):List AV:=(r16 (fr l)).map nA++(List.range 16).map (fun n=>AV.sl (nl0 (Zej l l.length n).length) none ((Zej l l.length n).map nA))++[.sc (.int .i64 (ZaA l:Nat))]
def trC (l:List Nat) (k:Nat) (gs:Nat→Nat):List AV:=(r16 (fr l)).map nA++ZvA 200 16 gs (fun n=>(Zej l k n).length)++[.sc (.int .i64 (ZaA l:Nat))]
def trH (l:List Nat) (k:Nat) (gs:Nat→Nat):Hp:=fun i=>if i=18 then some (0,.row false (trC l k gs)) else if 200≤i∧i<216 then some (gs (i-200),.row (nl0 (Zej l k (i-200)).length) ((Zej l k (i-200)).map nA)) else none
theorem ZAs {l:List Nat} {k:Nat} {gs:Nat→Nat}:trH l k gs 18=some (0,.row false (trC l k gs)):=by simp [trH]
theorem ZuI {l:List Nat} {k x:Nat} {gs:Nat→Nat} (h:x<16):trH l k gs (200+x)=some (gs x,.row (nl0 (Zej l k x).length) ((Zej l k x).map nA)):=by
 simp only [trH]
 rw [if_neg (by omega),if_pos (by omega),show 200+x-200=x by omega]
theorem Zmz {l:List Nat} {k:Nat} {gs:Nat→Nat}:(trC l k gs).length=33:=by simp [trC,Zaz,Zby]
theorem ZAt {l:List Nat} {k x:Nat} {gs:Nat→Nat} (h:x<16):(trC l k gs).getD (16+x) .junk = .own (200+x) (gs x) none 0 (Zej l k x).length:=by
 unfold trC
 simp only [List.getD]
 rw [List.getElem?_append_left (by simp [Zaz,Zby];omega),List.getElem?_append_right (by simp [Zaz])]
 simp only [List.length_map,Zaz,show 16+x-16=x by omega]
 rw [Zq6 h];rfl
theorem ZF6 {l:List Nat} {k x c:Nat} {gs:Nat→Nat} (hx:x<16) (hx0:x≠0) (hk:l.getD k 0=x) :
  (trC l k gs).take (16+x)++AV.own (200+x) c none 0 ((Zej l k x).length+1)::(trC l k gs).drop (16+x+1)=trC l (k+1) (fun j=>if j=x then c else gs j):=by
 have h:=List.set_eq_take_append_cons_drop (l:=trC l k gs) (i:=16+x) (a:=AV.own (200+x) c none 0 ((Zej l k x).length+1))
 rw [if_pos (by rw [Zmz];omega)] at h
 rw [←h]
 unfold trC
 rw [List.set_append_left _ _ (by simp [Zaz,Zby];omega),List.set_append_right _ _ (by simp [Zaz])]
 congr 2
 simp only [List.length_map,Zaz,show 16+x-16=x by omega]
 apply List.ext_getElem?
 intro i
 rw [List.getElem?_set,Zby]
 by_cases hi:i<16
 ·rw [Zq6 hi,Zq6 hi]
  by_cases e:x=i
  ·subst e
   rw [if_pos rfl,if_pos hi,if_pos rfl,ZeW hx0,if_pos hk,List.length_append];rfl
  ·rw [if_neg e,if_neg (fun h=>e h.symm)]
   by_cases i0:i=0
   ·subst i0;rfl
   ·rw [ZeW i0,if_neg (by omega)]
 ·rw [List.getElem?_eq_none (by rw [Zby];omega),List.getElem?_eq_none (by rw [Zby];omega),if_neg (by omega)]
theorem ZAu {l:List Nat} {k n:Nat} (hk:l.getD k 0=0):Zej l (k+1) n=Zej l k n:=by
 by_cases h:n=0
 ·subst h;rfl
 ·rw [ZeW h,if_neg (by omega)]
theorem ZDy {l:List Nat} {k:Nat} {gs:Nat→Nat} (hk:l.getD k 0=0):trH l (k+1) gs=trH l k gs:=by
 funext i
 simp only [trH,trC,ZAu hk]
theorem ZDz {l:List Nat} {k x c:Nat} {gs:Nat→Nat} (hx:x<16) (hx0:x≠0) (hk:l.getD k 0=x) {cs:List AV} (hcs:cs=trC l (k+1) (fun j=>if j=x then c else gs j)) :
  Zbr (Zbr (trH l k gs) (200+x) (some (c,.row false ((Zej l k x).map nA++[.sc (.int .i64 (k:Int))])))) 18 (some (0,.row false cs))=trH l (k+1) (fun j=>if j=x then c else gs j):=by
 funext i
 simp only [Zbr,trH]
 by_cases e1:i=18
 ·simp only [if_pos e1,hcs]
 ·simp only [if_neg e1]
  by_cases e2:i=200+x
  ·rw [if_pos e2,if_pos (by omega),show i-200=x by omega,if_pos rfl,ZeW hx0,if_pos hk]
   simp only [List.map_append,List.map_cons,List.map_nil,List.length_append,List.length_singleton,Zgn]
   rfl
  ·rw [if_neg e2]
   by_cases e3:200≤i∧i<216
   ·rw [if_pos e3,if_pos e3,if_neg (by omega)]
    by_cases i0:i-200=0
    ·rw [i0];rfl
    ·rw [ZeW i0,if_neg (by omega)]
   ·rw [if_neg e3,if_neg e3]
theorem ZvD {st:ASt} {l:List (Nat × AV)} {H:Hp} {gc N:Nat} (hN:N=st.N) (hgc:st.gc≤gc) (hl:AllTm st.tm l) (hh:st.hp=H):Le st ⟨Zvu l,H,gc,N⟩:=by
 have:=Zau (st:=st) (gc:=gc) (h:=[]) hN hgc hl trivial
 exact ⟨this.tm,fun id=>.inl (by rw [←hh]),hgc,hN⟩
set_option maxRecDepth 100000 in
theorem ZpD [Tabs Tryz.prog] (nl:Bool) (li:List Int) (hc:chk li=0) (l:List Nat) (hli:l=li.map Int.toNat):Con Tryz.prog ZbY [.sl nl none (li.map int)] (.tup [.fp (.agg (trR l)) 0,int 0]):=by
 obtain ⟨hlen,ha,hK⟩:=ZAr hc
 obtain ⟨hm,h15⟩:=ZvC ha
 rw [←hli] at hm h15 hK
 have hl:l.length≤320:=by rw [hli,List.length_map];exact hlen
 have hchk:=Zjf nl li (by omega)
 rw [hm,hc] at hchk
 rw [hm]
 clear hm ha hc
 have hfT:AV.free.freeL (trR l)=true:=by
  unfold trR
  rw [ZhS,ZhS,Zab]
  have:AV.free.freeL ((List.range 16).map (fun n=>AV.sl (nl0 (Zej l l.length n).length) none ((Zej l l.length n).map nA)))=true:=Zba.2 fun x hx=>by
   obtain ⟨n,_,rfl⟩:=List.mem_map.1 hx
   simp only [AV.free,Zab]
  rw [this];rfl
 refine Con.of' mix Tryz.func101 rfl Tryz.ntmps101 Zps Zpt (by simp) (by simp only [AV.free,AV.free.freeL,Zab,Bool.and_self]) (by simp only [AV.free,AV.free.freeL,hfT,int,Bool.and_self]) ?_
 unfold Zkd
 have hf:AV.free.freeL [.sl nl none (l.map nA)]=true:=by simp only [AV.free,AV.free.freeL,Zab,Bool.and_self]
 have hfr:=ZiE nl l hl h15
 have htk:=Zje nl l (by omega) h15
 obtain ⟨F,hF⟩:∃ F,F=r16 (fr l):=⟨_,rfl⟩
 have hFl:F.length=16:=by rw [hF,Zaz]
 have hFm:(F.map nA).length=16:=by rw [List.length_map,hFl]
 rw [←hF] at hfr
 obtain ⟨K,hKd⟩:∃ K,K=ZaA l:=⟨_,rfl⟩
 rw [←hKd] at htk
 have ht1:∀ (x y:AV) (r:List AV),List.take 32 (F.map nA++(x::y::r))=F.map nA++List.take 16 (x::y::r):=fun x y r=>by rw [List.take_append,hFm,List.take_of_length_le (by omega)]
 have ht2:∀ (x y:AV) (r:List AV),List.drop 33 (F.map nA++(x::y::r))=List.drop 17 (x::y::r):=fun x y r=>by rw [List.drop_append,hFm,List.drop_of_length_le (by omega)];rfl
 repeat (first | refine xS ?_ | exact xT)
 refine Zay _ (.inl ⟨hf,hchk⟩) ?_
 repeat (first | refine xS ?_ | exact xT)
 refine Zay _ (.inl ⟨hf,hfr⟩) ?_
 repeat (first | refine xS ?_ | exact xT)
 refine Zay _ (.inl ⟨hf,htk⟩) ?_
 repeat (first | refine xR (ja3 @hFl @ht1 @ht2) ?_ | exact xU (ja3 @hFl @ht1 @ht2))
 refine SWp.le (Zau (N:=44) (gc:=1) (l:=[(5,.op 18 0 0),(19,.sl nl none (l.map nA)),(20,int l.length),(21,int 0)]) (h:=[(18,0,.row false (F.map nA++List.replicate 16 (AV.sc (.slice none 0 0))++[.sc (.int .i64 (K:Int))]))]) rfl ?_ ?_ ?_) ?_
 iterate 2 (case _=>(first | exact vT | refine vS ?_))
 ·(first | exact vT | refine vS ?_)
  rfl
 refine SWp.adoptN 18 0 200 16 (nl:=false) (pre:=F.map nA) (post:=[.sc (.int .i64 (K:Int))]) (by omega) (by (first | exact vT | refine vS ?_)) ?_
 refine SWp.loop (α:=Nat × (Nat→Nat) × Nat) (fun x=>⟨Zvu [(5,.op 18 0 0),(19,.sl nl none (l.map nA)),(20,int l.length),(21,int x.1)],trH l x.1 x.2.1,x.2.2,44⟩)
  (fun x=>x.1≤l.length) (fun x=>l.length-x.1) (0,fun j=>1+j,17) (Nat.zero_le _) (ZvD rfl ?_ ?_ ?_) ?_
 ·exact Nat.le_refl _
 ·(first | exact vT | refine vS ?_)
 ·funext i
  simp only [adH,trH,trC,←hF,←hKd,ZHf,Zc3]
  by_cases e1:i=18
  ·rw [if_pos e1,if_pos e1]
   simp [ZvA,Zej]
  ·simp only [if_neg e1]
   by_cases e2:200≤i∧i<216
   ·rw [if_pos (by omega),if_pos e2]
    simp [Zej,nl0]
   ·rw [if_neg (by omega),if_neg e2]
 rintro ⟨k,gs,c⟩ hk -
 simp only at hk
 repeat (first | refine xS ?_ | exact xT)
 refine SWp.cond rfl (fun h=>?_) (fun h=>?_)
 ·simp only [decide_eq_true_eq] at h
  have hkl:k<l.length:=by omega
  have hx15:l.getD k 0≤15:=by
   have:l.getD k 0=l[k]:=by simp [List.getD,List.getElem?_eq_getElem hkl]
   rw [this];exact h15 _ (List.getElem_mem hkl)
  obtain ⟨x,hx⟩:∃ x,x=l.getD k 0:=⟨_,rfl⟩
  rw [←hx] at hx15
  by_cases c0:x=0
  ·subst c0
   repeat (first | refine xR (ja2 iR hx.symm) ?_ | exact xU (ja2 iR hx.symm))
   refine ⟨(k+1,gs,c),by simp only;omega,by simp only;omega,ZvD rfl (Nat.le_refl _) ?_ ?_⟩
   ·(first | exact vT | refine vS ?_)
   ·exact (ZDy hx.symm).symm
  ·have d0:decide ((0:Int)<(x:Int))=true:=decide_eq_true (by omega)
   have hsl:=ZpC (l:=l) (k:=k) (n:=x) hk
   have hcs:=ZF6 (c:=c) (gs:=gs) (by omega) c0 hx.symm
   repeat (first | refine xR (ja8 iR hx.symm @d0 @ZAs @ZuI @ZAt @Zmz @Nat.mul_one) ?_ | exact xU (ja8 iR hx.symm @d0 @ZAs @ZuI @ZAt @Zmz @Nat.mul_one))
   refine ⟨(k+1,fun j=>if j=x then c else gs j,c+1),by simp only;omega,by simp only;omega,ZvD rfl (Nat.le_refl _) ?_ ?_⟩
   ·(first | exact vT | refine vS ?_)
   ·exact ZDz (by omega) c0 hx.symm hcs
 ·simp only [decide_eq_false_iff_not] at h
  obtain rfl:k=l.length:=by omega
  refine SWp.le (st':=⟨Zvu [(5,.op 18 0 0)],trH l l.length gs,c,44⟩) (ZvD rfl (Nat.le_refl _) ?_ rfl) ?_
  ·(first | exact vT | refine vS ?_)
  refine SWp.frzN 18 0 200 16 (nl:=false) (pre:=(r16 (fr l)).map nA) (post:=[.sc (.int .i64 (ZaA l:Nat))]) (gs:=gs) (ls:=fun n=>nl0 (Zej l l.length n).length) (xs:=fun n=>(Zej l l.length n).map nA) (by omega) ?_ ?_ (fun _ _=>Zab) Zab rfl ?_ ?_
  ·rw [ZAs]
   simp only [trC,ZvA,ZGT,Nat.not_lt_zero,if_false,List.length_map]
  ·intro i hi
   exact ZuI hi
  ·intro t i hi
   by_cases e:t=5
   ·subst e
    show fzo _ _ _ _ (.op 18 0 0) = .op 18 0 0
    rw [ZEt,if_neg (by omega)]
   ·have:Zvu [(5,AV.op 18 0 0)] t = .junk:=by simp only [Zvu];rw [if_neg e]
    rw [this];rfl
  have hm:(r16 (fr l)).map nA++ZGT 200 16 16 gs (fun n=>nl0 (Zej l l.length n).length) (fun n=>(Zej l l.length n).map nA)++[.sc (.int .i64 (ZaA l:Nat))]=trR l:=by
   unfold trR
   have:ZGT 200 16 16 gs (fun n=>nl0 (Zej l l.length n).length) (fun n=>(Zej l l.length n).map nA)=(List.range 16).map (fun n=>AV.sl (nl0 (Zej l l.length n).length) none ((Zej l l.length n).map nA)):=List.map_congr_left fun i hi=>by rw [if_pos (List.mem_range.1 hi)]
   rw [this]
  have hH:ZAd 18 0 200 16 16 gs (fun n=>nl0 (Zej l l.length n).length) (fun n=>(Zej l l.length n).map nA) false ((r16 (fr l)).map nA) [.sc (.int .i64 (ZaA l:Nat))] 18=some (0,.row false (trR l)):=by
   unfold ZAd;rw [if_pos rfl,hm]
  refine SWp.le (Zau (N:=44) (gc:=c) (l:=[(5,.op 18 0 0)]) (h:=[(18,0,.row false (trR l))]) rfl (Nat.le_refl _) ?_ ?_) ?_
  iterate 2 (case _=>(first | exact vU @hH | refine vR @hH ?_))
  repeat (first | refine xR @hfT ?_ | exact xU @hfT)
  all_goals trace_state
theorem Zjg {l:List Nat} {n:Nat}:(Zej l l.length n).length=cn l n:=by
 rw [ZeG (Nat.le_refl _),List.take_length];rfl
theorem ZfC {l:List Nat}:(trR l).length=33:=by simp [trR,Zaz]
theorem ZHX {l:List Nat} {n:Nat} (h:n<16):(trR l).getD n .junk = .sc (.int .i64 ((fr l n:Nat):Int)):=by
 unfold trR
 rw [List.append_assoc]
 simp only [List.getD]
 rw [List.getElem?_append_left (by simp [Zaz];exact h)]
 simp [r16,h,nA]
theorem ZF7 {l:List Nat} {n:Nat} (h:n<16):(trR l).getD (16+n) .junk = .sl (nl0 (cn l n)) none ((Zej l l.length n).map nA):=by
 unfold trR
 simp only [List.getD]
 rw [List.getElem?_append_left (by simp [Zaz];omega),List.getElem?_append_right (by simp [Zaz])]
 simp [Zaz,h,Zjg]
theorem ZvE {l:List Nat}:(trR l).getD 32 .junk = .sc (.int .i64 ((ZaA l:Nat):Int)):=by
 unfold trR
 simp only [List.getD]
 rw [List.getElem?_append_right (by simp [Zaz])]
 simp [Zaz]
theorem ZbW {l:List Nat}:AV.free.freeL (trR l)=true:=by
 unfold trR
 rw [ZhS,ZhS,Zab]
 have:AV.free.freeL ((List.range 16).map (fun n=>AV.sl (nl0 (Zej l l.length n).length) none ((Zej l l.length n).map nA)))=true:=Zba.2 fun x hx=>by
  obtain ⟨n,_,rfl⟩:=List.mem_map.1 hx
  simp only [AV.free,Zab]
 rw [this];rfl
theorem Zrd [Tabs Tryz.prog] (l:List Nat) (hK:ZaA l≤32768) (v n:Nat) (hv:v<65536) (hn:n≤15):Con Tryz.prog Zgr [.fp (.agg (trR l)) 0,.sc (.int .i64 (v:Int)),.sc (.int .i64 (n:Int))] (boo (decide (v*2^(15-n)<ZaA l))):=by
 refine Con.of' mix Tryz.func135 rfl Tryz.ntmps135 Zlu Zlv (by simp) (by simp only [AV.free,AV.free.freeL,ZbW,Bool.and_self]) rfl ?_
 unfold ZgI
 have e1:(15:Int)-(n:Int)=((15-n:Nat):Int):=by omega
 have hp:2^(15-n)≤32768:=Zcf (n:=15-n) (m:=15) (by omega)
 obtain ⟨j,hj⟩:∃ j,j=15-n:=⟨_,rfl⟩
 rw [←hj] at hp e1 ⊢
 have hj15:j≤15:=by omega
 have hz:v*2^j≤65536*32768:=Nat.mul_le_mul (by omega) hp
 obtain ⟨z,hzz⟩:∃ z,z=v*2^j:=⟨_,rfl⟩
 rw [←hzz] at hz ⊢
 have hd:decide ((z:Int)<((ZaA l:Nat):Int))=decide (z<ZaA l):=decide_eq_decide.2 (by omega)
 repeat (first | refine xR (ja5 @e1 hzz.symm @ZfC @ZvE @hd) ?_ | exact xU (ja5 @e1 hzz.symm @ZfC @ZvE @hd))
def nxt (l B:List Nat):Nat→Nat→Nat→Nat × Nat × Nat
 | 0,n,_=>(0,n,3)
 | f+1,n,v =>
  if B.length≤n then (0,n,2) else
  if ZaA l≤(2*v+B.getD n 0)*2^(15-(n+1)) then (0,n+1,3) else
  if 2*v+B.getD n 0-fr l (n+1)<cn l (n+1) then ((Zej l l.length (n+1)).getD (2*v+B.getD n 0-fr l (n+1)) 0,n+1,0) else
  nxt l B f (n+1) (2*v+B.getD n 0)
set_option maxHeartbeats 1000000 in
set_option maxRecDepth 100000 in
theorem ZkM [Tabs Tryz.prog] (l:List Nat) (hl:l.length≤320) (hK:ZaA l≤32768) (nl:Bool) (b:List UInt8) (hb:b.length≤1000000) (i:Nat) (hi:i≤8*b.length) (r:Nat × Nat × Nat) (hr:nxt l ((Zah b).drop i) 15 0 0=r) :
  HCon Tryz.prog Zdl [.fp (.agg (trR l)) 0,.op 1000 0 0] [.row false (rdR nl b i)] (.tup [.sc (.int .i64 (r.1:Int)),.sc (.int .i64 (r.2.2:Int))]) [(1000,0,.row false (rdR nl b (i+r.2.1)))] 100:=by
 refine HCon.of' mix Tryz.func102 rfl Tryz.ntmps102 Znr Zns (by simp) (by simp only [AV.gl.glL,AV.gl,and_true];exact ⟨Zae _ _ ZbW,by omega⟩) Zgj ?_
 unfold Zix
 repeat (first | refine xS ?_ | exact xT)
 refine SWp.loop (α:=Nat × Nat) (fun x=>mk 55 (1+3*x.1) [(0,.fp (.agg (trR l)) 0),(1,.op 1000 0 0),(6,int (x.2:Nat)),(10,int x.1)] [(1000,0,.row false (rdR nl b (i+x.1)))])
  (fun x=>x.1≤15∧i+x.1≤8*b.length∧x.2<2^x.1∧fr l (x.1+1)≤2*x.2∧nxt l ((Zah b).drop i) (15-x.1) x.1 x.2=r) (fun x=>15-x.1) (0,0) ⟨Nat.zero_le _,hi,by decide,by simp [fr,cn],hr⟩ (Zau rfl ?_ ?_ ?_) ?_
 ·exact Nat.le_refl _
 iterate 2 (case _=>(first | exact vT | refine vS ?_))
 rintro ⟨n,v⟩ ⟨hn,hin,hv,hF,hx⟩ -
 simp only at hn hin hv hF hx
 repeat (first | refine xS ?_ | exact xT)
 refine SWp.cond rfl (fun h=>?_) (fun h=>?_)
 ·simp only [decide_eq_true_eq] at h
  have hn15:n<15:=by omega
  obtain ⟨f,hf⟩:∃ f,15-n=f+1:=⟨14-n,by omega⟩
  have hBl:((Zah b).drop i).length=8*b.length-i:=by rw [List.length_drop,Zad]
  rw [hf,nxt,hBl] at hx
  have hleft:=Zgb nl b hb (i+n) hin
  by_cases c0:8*b.length-i≤n
  ·rw [if_pos c0] at hx
   have d0:decide (((8*b.length-(i+n):Nat):Int)=0)=true:=decide_eq_true (by omega)
   subst hx
   repeat (first | refine xS ?_ | exact xT)
   refine Zag [(1000,0)] 2000 hleft (by simp) (by simp) ?_ ?_ ?_
   iterate 2 (case _=>(first | exact vU @rdR.eq_1 | refine vR @rdR.eq_1 ?_))
   repeat (first | refine xR (ja3 @d0 @rdR.eq_1 iR) ?_ | exact xU (ja3 @d0 @rdR.eq_1 iR))
   omega
  ·rw [if_neg c0] at hx
   have d0:decide (((8*b.length-(i+n):Nat):Int)=0)=false:=decide_eq_false (by omega)
   have hbd:((Zah b).drop i).getD n 0=ZkL b (i+n):=by
    rw [←ZlG (by omega)]
    simp [List.getD]
   rw [hbd] at hx
   have hbit:=Zqe nl b hb (i+n) (by omega)
   have hbl:=Zq8 (l:=b) (i:=i+n)
   obtain ⟨x,hxx⟩:∃ x,x=ZkL b (i+n):=⟨_,rfl⟩
   rw [←hxx] at hx hbit hbl
   have hp:2^n≤16384:=Zcf (n:=n) (m:=14) (by omega)
   have hp2:2^(n+1)=2*2^n:=by rw [Nat.pow_succ];omega
   obtain ⟨w,hw⟩:∃ w,w=2*v+x:=⟨_,rfl⟩
   have hor:v*2|||x=w:=by
    have:=Nat.two_pow_add_eq_or_of_lt (i:=1) (b:=x) (by omega) v
    rw [Nat.pow_one] at this
    rw [hw,Nat.mul_comm v 2];omega
   have hwl:w<2^(n+1):=by omega
   have hwl2:w<32768:=by omega
   rw [←hw] at hx
   have hbeg:=Zrd l hK w (n+1) (by omega) (by omega)
   have hfw:fr l (n+1)≤w:=by omega
   have hfl:=ZDx hl (n:=n+1) (by omega)
   repeat (first | refine xS ?_ | exact xT)
   refine Zag [(1000,0)] 2000 hleft (by simp) (by simp) ?_ ?_ ?_
   iterate 2 (case _=>(first | exact vU @rdR.eq_1 | refine vR @rdR.eq_1 ?_))
   repeat (first | refine xR (ja3 @d0 @rdR.eq_1 iR) ?_ | exact xU (ja3 @d0 @rdR.eq_1 iR))
   refine Zag [(1000,0)] 3000 hbit (by simp) (by simp) ?_ ?_ ?_
   iterate 2 (case _=>(first | exact vU @rdR.eq_1 | refine vR @rdR.eq_1 ?_))
   repeat (first | refine xR (ja4 @rdR.eq_1 iR @Nat.pow_one @hor) ?_ | exact xU (ja4 @rdR.eq_1 iR @Nat.pow_one @hor))
   by_cases c1:ZaA l≤w*2^(15-(n+1))
   ·rw [if_pos c1] at hx
    have dz:decide (w*2^(15-(n+1))<ZaA l)=false:=decide_eq_false (by omega)
    rw [dz] at hbeg
    subst hx
    refine Zay _ (.inl ⟨by simp only [AV.free,AV.free.freeL,ZbW,Bool.and_self],hbeg⟩) ?_
    repeat (first | refine xR (ja2 @rdR.eq_1 iR) ?_ | exact xU (ja2 @rdR.eq_1 iR))
    refine ⟨?_,by omega⟩
    rw [Int.add_assoc]
   ·rw [if_neg c1] at hx
    have dz:decide (w*2^(15-(n+1))<ZaA l)=true:=decide_eq_true (by omega)
    rw [dz] at hbeg
    obtain ⟨F,hFd⟩:∃ F,F=fr l (n+1):=⟨_,rfl⟩
    have hgF:=ZHX (l:=l) (n:=n+1) (by omega)
    have hgS:=ZF7 (l:=l) (n:=n+1) (by omega)
    have hlS:=Zjg (l:=l) (n:=n+1)
    have hcl:=ZF5 (l:=l) (n:=n+1)
    rw [←hFd] at hgF hfw hfl hx
    have hsub:(w:Int)-(F:Int)=((w-F:Nat):Int):=by omega
    obtain ⟨S,hS⟩:∃ S,S=Zej l l.length (n+1):=⟨_,rfl⟩
    obtain ⟨c,hc⟩:∃ c,c=cn l (n+1):=⟨_,rfl⟩
    rw [←hS] at hgS hlS hx
    rw [←hc] at hgS hlS hcl hx
    obtain ⟨j,hj⟩:∃ j,j=w-F:=⟨_,rfl⟩
    rw [←hj] at hsub hx
    refine Zay _ (.inl ⟨by simp only [AV.free,AV.free.freeL,ZbW,Bool.and_self],hbeg⟩) ?_
    by_cases c2:j<c
    ·rw [if_pos c2] at hx
     have d2:decide ((j:Int)<(c:Int))=true:=decide_eq_true (by omega)
     subst hx
     repeat (first | refine xR (ja8 @rdR.eq_1 iR @ZfC @hgF @hgS @hlS @hsub @d2) ?_ | exact xU (ja8 @rdR.eq_1 iR @ZfC @hgF @hgS @hlS @hsub @d2))
     refine ⟨?_,by omega⟩
     rw [Int.add_assoc]
    ·rw [if_neg c2] at hx
     have d2:decide ((j:Int)<(c:Int))=false:=decide_eq_false (by omega)
     have hnx:fr l (n+1+1)≤2*w:=by
      rw [fr,←hFd,←hc];omega
     repeat (first | refine xR (ja8 @rdR.eq_1 iR @ZfC @hgF @hgS @hlS @hsub @d2) ?_ | exact xU (ja8 @rdR.eq_1 iR @ZfC @hgF @hgS @hlS @hsub @d2))
     refine At.of (n+1,w) ⟨by simp only;omega,by simp only;omega,hwl,hnx,by simp only;rw [show 15-(n+1)=f by omega];exact hx⟩ (by simp only;omega) rfl rfl ?_ ?_ ?_
     ·simp only;omega
     iterate 2 (case _=>(first | exact vU (ja2 @rdR.eq_1 @Int.add_assoc) | refine vR (ja2 @rdR.eq_1 @Int.add_assoc) ?_))
 ·simp only [decide_eq_false_iff_not] at h
  obtain rfl:n=15:=by omega
  have hx:r=(0,15,3):=by rw [←hx];rfl
  subst hx
  repeat (first | refine xR (ja2 @rdR.eq_1 iR) ?_ | exact xU (ja2 @rdR.eq_1 iR))
  all_goals trace_state
theorem Zac {ρ:Nat→Nat→Nat × Nat} {l:List Nat}:ren ρ (.fp (.agg (trR l)) 0) = .fp (.agg (trR l)) 0:=ZhN ρ _ (by simp only [AV.free,ZbW])
theorem ZlI {l B:List Nat}:∀ (f n v:Nat),n≤B.length→(nxt l B f n v).2.1≤B.length∧((nxt l B f n v).2.2=0∨((nxt l B f n v).2.2=2∧(nxt l B f n v).2.1=B.length)∨(nxt l B f n v).2.2=3)
 | 0,n,v,h=>⟨h,.inr (.inr rfl)⟩
 | f+1,n,v,h=>by
  rw [nxt]
  split
  ·exact ⟨h,.inr (.inl ⟨rfl,by simp only;omega⟩)⟩
  ·split
   ·exact ⟨by simp only;omega,.inr (.inr rfl)⟩
   ·split
    ·exact ⟨by simp only;omega,.inl rfl⟩
    ·exact ZlI f (n+1) _ (by omega)
inductive BT (α:Type) where
 | ret (a:α):BT α
 | err (e:Nat):BT α
 | pos (k:Nat→BT α):BT α
 | bit (k:Nat→BT α):BT α
inductive BR (α:Type) where
 | ok (a:α) (i:Nat):BR α
 | no (e:Nat):BR α
def BR.bnd {α β:Type}:BR α→(α→Nat→BR β)→BR β
 | .ok a i,f=>f a i
 | .no e,_=>.no e
def BT.bnd {α β:Type}:BT α→(α→BT β)→BT β
 | .ret a,f=>f a
 | .err e,_=>.err e
 | .pos k,f=>.pos fun i=>(k i).bnd f
 | .bit k,f=>.bit fun x=>(k x).bnd f
def BT.run {α:Type} (B:List Nat):BT α→Nat→BR α
 | .ret a,i=>.ok a i
 | .err e,_=>.no e
 | .pos k,i=>(k i).run B i
 | .bit k,i=>if i<B.length then (k (B.getD i 0)).run B (i+1) else .no 2
theorem Zav {α β:Type} {B:List Nat} {f:α→BT β}:∀ {t:BT α} {i:Nat},(t.bnd f).run B i=(t.run B i).bnd fun a j=>(f a).run B j
 | .ret _,_=>rfl
 | .err _,_=>rfl
 | .pos k,i=>by simp only [BT.bnd,BT.run];exact Zav
 | .bit k,i=>by
  simp only [BT.bnd,BT.run]
  split
  ·exact Zav
  ·rfl
theorem Zgc {α:Type} {B:List Nat} {a:α} {j:Nat}:∀ {t:BT α} {i:Nat},t.run B i = .ok a j→i≤j∧(i≤B.length→j≤B.length)
 | .ret _,i,h=>by simp only [BT.run,BR.ok.injEq] at h;omega
 | .err _,_,h=>by simp [BT.run] at h
 | .pos k,i,h=>by simp only [BT.run] at h;exact Zgc h
 | .bit k,i,h=>by
  simp only [BT.run] at h
  split at h
  ·have:=Zgc h;exact ⟨by omega,fun _=>this.2 (by omega)⟩
  ·cases h
theorem Zre {α:Type} {B B':List Nat} {a:α} {j:Nat} (hl:j≤B'.length) (hB:∀ n,n<j→B'.getD n 0=B.getD n 0):∀ {t:BT α} {i:Nat},t.run B i = .ok a j→t.run B' i = .ok a j
 | .ret _,i,h=>h
 | .err _,_,h=>by simp [BT.run] at h
 | .pos k,i,h=>by simp only [BT.run] at h ⊢;exact Zre hl hB h
 | .bit k,i,h=>by
  simp only [BT.run] at h ⊢
  split at h
  ·have:=Zgc h
   rw [if_pos (by omega),hB i (by omega)]
   exact Zre hl hB h
  ·cases h
theorem ZoI {α:Type} {B B':List Nat} {a:α} {j:Nat} (hl:B'.length<j) (hB:∀ n,n<B'.length→B'.getD n 0=B.getD n 0):∀ {t:BT α} {i:Nat},i≤B'.length→t.run B i = .ok a j→t.run B' i = .no 2
 | .ret _,i,hi,h=>by simp only [BT.run,BR.ok.injEq] at h;omega
 | .err _,_,_,h=>by simp [BT.run] at h
 | .pos k,i,hi,h=>by simp only [BT.run] at h ⊢;exact ZoI hl hB hi h
 | .bit k,i,hi,h=>by
  simp only [BT.run] at h ⊢
  split at h
  ·by_cases e:i<B'.length
   ·rw [if_pos e,hB i e]
    exact ZoI hl hB (by omega) h
   ·rw [if_neg e]
  ·cases h
def ZkX:Nat→BT Nat
 | 0=>.ret 0
 | n+1=>.bit fun x=>(ZkX n).bnd fun y=>.ret (x+2*y)
theorem ZnP {B:List Nat}:∀ {n i:Nat},i≤B.length→(ZkX n).run B i=if i+n≤B.length then .ok (Zg1 ((B.drop i).take n)) (i+n) else .no 2
 | 0,i,h=>by rw [if_pos (by omega)];rfl
 | n+1,i,h=>by
  simp only [ZkX,BT.run,Zav]
  by_cases c:i<B.length
  ·rw [if_pos c,ZnP (by omega)]
   by_cases c2:i+(n+1)≤B.length
   ·rw [if_pos (by omega),if_pos c2]
    simp only [BR.bnd,BT.run]
    have:B.drop i=B.getD i 0::B.drop (i+1):=by
     rw [List.drop_eq_getElem_cons c];simp [List.getD,List.getElem?_eq_getElem c]
    rw [this,List.take_succ_cons,Zg1]
    congr 1
    omega
   ·rw [if_neg (by omega),if_neg c2];rfl
  ·rw [if_neg c,if_neg (by omega)]
theorem ZvF {b:List UInt8} {i n:Nat} (h:i+n≤8*b.length):Zg1 (((Zah b).drop i).take n)=Zb6 b i n:=by
 unfold Zb6
 congr 1
 apply List.ext_getElem?
 intro k
 rw [List.getElem?_take]
 by_cases hk:k<n
 ·have hj:i+k<8*b.length:=by omega
  have hj2:i+k<(Zah b).length:=by rw [Zad];exact hj
  rw [if_pos hk,List.getElem?_drop,List.getElem?_map,List.getElem?_range hk,List.getElem?_eq_getElem hj2]
  simp only [Option.map_some,Option.some.injEq]
  rw [←ZlG hj]
  simp [List.getD,List.getElem?_eq_getElem hj2]
 ·rw [if_neg hk,List.getElem?_eq_none (by simp;omega)]
theorem ZeH {b:List UInt8} {i n:Nat} (h:i≤8*b.length):(ZkX n).run (Zah b) i=if i+n≤8*b.length then .ok (Zb6 b i n) (i+n) else .no 2:=by
 rw [ZnP (by rw [Zad];exact h),Zad]
 split
 ·rw [ZvF (by assumption)]
 ·rfl
def ZyE (l:List Nat):Nat→Nat→Nat→BT Nat
 | 0,_,_=>.err 3
 | f+1,n,v=>.bit fun x =>
  if ZaA l≤(2*v+x)*2^(15-(n+1)) then .err 3 else
  if 2*v+x-fr l (n+1)<cn l (n+1) then .ret ((Zej l l.length (n+1)).getD (2*v+x-fr l (n+1)) 0) else
  ZyE l f (n+1) (2*v+x)
def ZAv (i:Nat) (r:Nat × Nat × Nat):BR Nat:=if r.2.2=0 then .ok r.1 (i+r.2.1) else .no r.2.2
theorem ZvG {l B:List Nat} {i:Nat}:∀ {f n v:Nat},(ZyE l f n v).run B (i+n)=ZAv i (nxt l (B.drop i) f n v)
 | 0,n,v=>rfl
 | f+1,n,v=>by
  have hg:(B.drop i).getD n 0=B.getD (i+n) 0:=by simp [List.getD]
  rw [nxt,hg]
  simp only [ZyE,BT.run]
  by_cases c:i+n<B.length
  ·rw [if_pos c,if_neg (show ¬ (B.drop i).length≤n by rw [List.length_drop];omega)]
   split
   ·rfl
   ·split
    ·simp only [BT.run,ZAv,if_true,Nat.add_assoc]
    ·exact ZvG (n:=n+1)
  ·rw [if_neg c,if_pos (show (B.drop i).length≤n by rw [List.length_drop];omega)];rfl
theorem ZoJ {l B:List Nat} {i:Nat}:(ZyE l 15 0 0).run B i=ZAv i (nxt l (B.drop i) 15 0 0):=ZvG (n:=0)
def Zhy (v n:Nat):BT Nat:=(ZkX n).bnd fun x=>.ret (v+x)
def Zrf (s:Nat):BT Nat:=if 29≤s then .err 3 else if s=28 then .ret 258 else if s<8 then .ret (3+s) else Zhy (3+(4+s % 4)*2^(s / 4-1)) (s / 4-1)
def ZsJ (s:Nat):BT Nat:=if 30≤s then .err 3 else if s<4 then .ret (1+s) else Zhy (1+(2+s % 2)*2^(s / 2-1)) (s / 2-1)
theorem Zrg {B:List Nat} (hB:∀ x∈B,x<2) {v n i a j:Nat} (h:(Zhy v n).run B i = .ok a j):a<v+2^n:=by
 rw [Zhy,Zav] at h
 have key:∀ (n i a j:Nat),(ZkX n).run B i = .ok a j→a<2^n:=by
  intro n
  induction n with
  | zero=>intro i a j h;simp only [ZkX,BT.run,BR.ok.injEq] at h;omega
  | succ n ih =>
   intro i a j h
   simp only [ZkX,BT.run,Zav] at h
   split at h
   ·rename_i hi
    have hx:B.getD i 0<2:=by
     have:B.getD i 0=B[i]:=by simp [List.getD,List.getElem?_eq_getElem hi]
     rw [this];exact hB _ (List.getElem_mem hi)
    cases hr:(ZkX n).run B (i+1) with
    | no e=>rw [hr] at h;cases h
    | ok y k =>
     rw [hr] at h
     have:=ih _ _ _ hr
     simp only [BR.bnd,BT.run,BR.ok.injEq] at h
     rw [Nat.pow_succ];omega
   ·cases h
 cases hr:(ZkX n).run B i with
 | no e=>rw [hr] at h;cases h
 | ok y k =>
  rw [hr] at h
  have:=key _ _ _ _ hr
  simp only [BR.bnd,BT.run,BR.ok.injEq] at h
  omega
theorem ZDA {B:List Nat} {v n i a j:Nat} (h:(Zhy v n).run B i = .ok a j):v≤a:=by
 rw [Zhy,Zav] at h
 cases hr:(ZkX n).run B i with
 | no e=>rw [hr] at h;cases h
 | ok y k=>rw [hr] at h;simp only [BR.bnd,BT.run,BR.ok.injEq] at h;omega
theorem ZF8 {b:List UInt8} {s i a j:Nat} (h:(Zrf s).run (Zah b) i = .ok a j):a≤258:=by
 unfold Zrf at h
 split at h
 ·cases h
 ·split at h
  ·simp only [BT.run,BR.ok.injEq] at h;omega
  ·split at h
   ·simp only [BT.run,BR.ok.injEq] at h;omega
   ·have:=Zrg Zjw h
    rename_i h1 h2 h3
    have hk:s / 4-1=1∨s / 4-1=2∨s / 4-1=3∨s / 4-1=4∨s / 4-1=5:=by omega
    have hm:s % 4<4:=by omega
    generalize s % 4=m at *
    generalize s / 4-1=k at *
    rcases hk with rfl | rfl | rfl | rfl | rfl <;> omega
theorem ZF9 {b:List UInt8} {s i a j:Nat} (h:(ZsJ s).run (Zah b) i = .ok a j):1≤a∧a≤32768:=by
 unfold ZsJ at h
 split at h
 ·cases h
 ·split at h
  ·simp only [BT.run,BR.ok.injEq] at h;omega
  ·have h2:=Zrg Zjw h
   have h3:1≤a:=by
    rw [Zhy,Zav] at h
    cases hr:(ZkX (s / 2-1)).run (Zah b) i with
    | no e=>rw [hr] at h;cases h
    | ok y k=>rw [hr] at h;simp only [BR.bnd,BT.run,BR.ok.injEq] at h;omega
   refine ⟨h3,?_⟩
   have hk:2^(s / 2-1)≤8192:=Zcf (n:=s / 2-1) (m:=13) (by omega)
   have hm:s % 2<2:=by omega
   generalize s % 2=m at *
   generalize 2^(s / 2-1)=p at *
   obtain rfl | rfl:m=0∨m=1:=by omega
   ·omega
   ·omega
def cpy (out:List UInt8) (k:Nat):Nat→List UInt8
 | 0=>out
 | n+1=>cpy (out++[out.getD (out.length-k) 0]) k n
theorem ZmA {k:Nat}:∀ {n:Nat} {out:List UInt8},(cpy out k n).length=out.length+n
 | 0,_=>rfl
 | n+1,out=>by rw [cpy,ZmA,List.length_append,List.length_singleton];omega
theorem Zrh {k:Nat}:∀ {n:Nat} {out:List UInt8},cpy out k (n+1)=cpy out k n++[(cpy out k n).getD ((cpy out k n).length-k) 0]
 | 0,out=>rfl
 | n+1,out=>by
  show cpy (out++[out.getD (out.length-k) 0]) k (n+1)=_
  rw [Zrh];rfl
def ZyF (most:Nat) (d:List Nat) (out:List UInt8) (s:Nat):BT (List UInt8) :=
 (Zrf s).bnd fun n=>(ZyE d 15 0 0).bnd fun t=>(ZsJ t).bnd fun k =>
  if out.length<k then .err 3 else if most<out.length+n then .err 4 else .ret (cpy out k n)
def ZuJ (l d:List Nat) (most:Nat):Nat→List UInt8→BT (List UInt8)
 | 0,_=>.err 2
 | f+1,out=>(ZyE l 15 0 0).bnd fun s =>
  if s<256 then (if most≤out.length then .err 4 else ZuJ l d most f (out++[UInt8.ofNat s])) else
  if s=256 then .ret out else (ZyF most d out (s-257)).bnd fun o=>ZuJ l d most f o
def ZvH:Nat→BT (List UInt8)
 | 0=>.ret []
 | n+1=>(ZkX 8).bnd fun x=>(ZvH n).bnd fun r=>.ret (UInt8.ofNat x::r)
def ZAw (most:Nat) (out:List UInt8):BT (List UInt8) :=
 .pos fun i=>(ZkX ((i+7) / 8*8-i)).bnd fun _=>(ZkX 16).bnd fun n=>(ZkX 16).bnd fun m =>
  if n+m≠65535 then .err 3 else (ZvH n).bnd fun bs=>if most<out.length+n then .err 4 else .ret (out++bs)
def Zhz:List Nat:=[16,17,18,0,8,7,9,6,10,5,11,4,12,3,13,2,14,1,15]
def ZvI:Nat→Nat→List Nat→BT (List Nat)
 | 0,_,l=>.ret l
 | n+1,k,l=>(ZkX 3).bnd fun x=>ZvI n (k+1) (l.set (Zhz.getD k 0) x)
def lsV (s:Nat) (l:List Nat):Nat:=if s=16 then l.getD (l.length-1) 0 else if s=17∨s=18 then 0 else s
def lsN (s:Nat):Nat:=if s=16∨s=17 then 3 else if s=18 then 11 else 1
def lsB (s:Nat):Nat:=if s=16 then 2 else if s=17 then 3 else if s=18 then 7 else 0
def lsT (th:List Nat) (n:Nat):Nat→List Nat→BT (List Nat)
 | 0,_=>.err 3
 | f+1,l=>if n≤l.length then .ret l else (ZyE th 15 0 0).bnd fun s =>
  if s=16∧l=[] then .err 3 else (Zhy (lsN s) (lsB s)).bnd fun t=>if n<l.length+t then .err 3 else lsT th n f (l++List.replicate t (lsV s l))
def ZnQ (l:List Nat):Bool:=decide (l.length≤320∧ZaA l=32768)
def ZEv (l:List Nat):Bool:=decide (l.sum≤1) || ZnQ l
def ZB8 (l d:List Nat):Bool:=decide (l.getD 256 0≠0)&&ZnQ l&&ZEv d
def Zyd (n:Nat):BT (List Nat):=(ZvI n 0 (List.replicate 19 0)).bnd fun th=>if ZnQ th=true then .ret th else .err 3
def Zye:BT (List Nat × List Nat) :=
 (ZkX 14).bnd fun c=>if 286<c % 32+257∨30<c / 32 % 32+1 then .err 3 else
  (Zyd (c / 1024+4)).bnd fun th=>(lsT th (c % 32+257+(c / 32 % 32+1)) 400 []).bnd fun ls =>
   if ZB8 (ls.take (c % 32+257)) (ls.drop (c % 32+257))=true then .ret (ls.take (c % 32+257),ls.drop (c % 32+257)) else .err 3
def ZAx:List Nat:=List.replicate 144 8++(List.replicate 112 9++(List.replicate 24 7++List.replicate 8 8))
def ZAy:List Nat:=List.replicate 32 5
def ZuK (most F:Nat) (out:List UInt8) (h:Nat):BT (List UInt8) :=
 if h=0 then ZAw most out else if h=1 then ZuJ ZAx ZAy most F out else
 if h=2 then Zye.bnd fun p=>ZuJ p.1 p.2 most F out else .err 3
def ZvJ (most F:Nat) (out:List UInt8):BT (Bool × List UInt8) :=
 (ZkX 3).bnd fun h=>(ZuK most F out (h / 2)).bnd fun o=>.ret (decide (h % 2=1),o)
def Zpk (most F:Nat):Nat→List UInt8→BT (List UInt8)
 | 0,_=>.err 2
 | f+1,out=>(ZvJ most F out).bnd fun p=>if p.1=true then .ret p.2 else Zpk most F f p.2
def ZB9:BR (List UInt8)→List UInt8 × Nat × Nat
 | .ok o j=>(o,(j+7) / 8,0)
 | .no e=>([],0,e)
def ZyG (F:Nat) (b:List UInt8) (most:Nat):List UInt8 × Nat × Nat:=ZB9 ((Zpk most F F []).run (Zah b) 0)
theorem ZvK {b:List UInt8}:∀ {n j:Nat},j≤b.length→(ZvH n).run (Zah b) (8*j)=if j+n≤b.length then .ok ((b.drop j).take n) (8*(j+n)) else .no 2
 | 0,j,h=>by rw [if_pos (by omega)];rfl
 | n+1,j,h=>by
  simp only [ZvH,Zav]
  rw [ZeH (by omega)]
  by_cases c:j<b.length
  ·rw [if_pos (by omega)]
   simp only [BR.bnd,Zav]
   rw [show 8*j+8=8*(j+1) by omega,ZvK (by omega)]
   by_cases c2:j+(n+1)≤b.length
   ·rw [if_pos (by omega),if_pos c2]
    simp only [BR.bnd,BT.run]
    have e:b.drop j=b.getD j 0::b.drop (j+1):=by
     rw [List.drop_eq_getElem_cons c];simp [List.getD,List.getElem?_eq_getElem c]
    have e2:UInt8.ofNat (Zb6 b (8*j) 8)=b.getD j 0:=by
     have h1:(Zah b).drop (8*j)=Zfv (b.getD j 0)++Zah (b.drop (j+1)):=by
      conv=>lhs;rw [←List.take_append_drop j b,Zbj]
      rw [List.drop_append,Zad,List.length_take,Nat.min_eq_left (by omega),Nat.sub_self,List.drop_zero,List.drop_of_length_le (by rw [Zad,List.length_take];omega),List.nil_append,e]
      simp [Zah]
     rw [←ZvF (by omega),h1,List.take_append_of_le_length (by rw [ZbD];exact Nat.le_refl _),List.take_of_length_le (by rw [ZbD];exact Nat.le_refl _)]
     have:=(b.getD j 0).toNat_lt
     have h2:Zg1 (Zfv (b.getD j 0))=(b.getD j 0).toNat:=numB_bitsB
     rw [h2];exact UInt8.ofNat_toNat
    rw [e2,e,List.take_succ_cons]
    congr 1
    omega
   ·rw [if_neg (by omega),if_neg c2]
  ·rw [if_neg (by omega),if_neg (by omega)];rfl
where
 numB_bitsB {c:UInt8}:Zg1 (Zfv c)=c.toNat:=by
  have:=c.toNat_lt
  simp only [Zfv,show List.range 8=[0,1,2,3,4,5,6,7] from rfl,List.map_cons,List.map_nil,Zg1]
  omega
theorem ZDB {b:List UInt8} {most:Nat} {out:List UInt8} {i:Nat} (hi:i≤8*b.length) :
  (ZAw most out).run (Zah b) i =
   if 8*b.length<(i+7) / 8*8+16 then .no 2 else if 8*b.length<(i+7) / 8*8+32 then .no 2 else
   if Zb6 b ((i+7) / 8*8) 16+Zb6 b ((i+7) / 8*8+16) 16≠65535 then .no 3 else
   if b.length<(i+7) / 8+4+Zb6 b ((i+7) / 8*8) 16 then .no 2 else
   if most<out.length+Zb6 b ((i+7) / 8*8) 16 then .no 4 else
   .ok (out++(b.drop ((i+7) / 8+4)).take (Zb6 b ((i+7) / 8*8) 16)) (8*((i+7) / 8+4+Zb6 b ((i+7) / 8*8) 16)):=by
 obtain ⟨q,hq⟩:∃ q,q=(i+7) / 8:=⟨_,rfl⟩
 rw [←hq]
 simp only [ZAw,BT.run,Zav]
 rw [←hq,ZeH hi,if_pos (by omega)]
 simp only [BR.bnd,Zav]
 rw [show i+(q*8-i)=q*8 by omega,ZeH (by omega)]
 by_cases c1:8*b.length<q*8+16
 ·rw [if_neg (by omega),if_pos c1]
 ·rw [if_pos (by omega),if_neg c1]
  simp only [BR.bnd,Zav]
  rw [ZeH (by omega)]
  by_cases c2:8*b.length<q*8+32
  ·rw [if_neg (by omega),if_pos c2]
  ·rw [if_pos (by omega),if_neg c2]
   simp only [BR.bnd]
   split
   ·rfl
   ·rw [Zav,show q*8+16+16=8*(q+4) by omega,ZvK (by omega)]
    by_cases c3:b.length<q+4+Zb6 b (q*8) 16
    ·rw [if_neg (by omega),if_pos c3];rfl
    ·rw [if_pos (by omega),if_neg c3]
     simp only [BR.bnd]
     split
     ·rfl
     ·rfl
inductive BT.safe {α:Type}:BT α→Prop where
 | ret (a:α):BT.safe (.ret a)
 | err (e:Nat) (h:e≠0∧e≤10):BT.safe (.err e)
 | pos (k:Nat→BT α) (h:∀ i,BT.safe (k i)):BT.safe (.pos k)
 | bit (k:Nat→BT α) (h:∀ x,BT.safe (k x)):BT.safe (.bit k)
theorem Za7 {α β:Type} {f:α→BT β} {t:BT α} (h:t.safe) (h2:∀ a,(f a).safe):(t.bnd f).safe:=by
 induction h with
 | ret a=>exact h2 a
 | err e h=>exact .err e h
 | pos k _ ih=>exact .pos _ ih
 | bit k _ ih=>exact .bit _ ih
theorem Zjy {α:Type} {B:List Nat} {e:Nat} {t:BT α} (h:t.safe):∀ {i:Nat},t.run B i = .no e→e≠0∧e≤10:=by
 induction h with
 | ret a=>intro i h;simp [BT.run] at h
 | err e h=>intro i h2;simp only [BT.run,BR.no.injEq] at h2;subst h2;exact h
 | pos k _ ih=>intro i h2;simp only [BT.run] at h2;exact ih _ h2
 | bit k _ ih =>
  intro i h2
  simp only [BT.run] at h2
  split at h2
  ·exact ih _ h2
  ·simp only [BR.no.injEq] at h2;omega
theorem Zb8 {α:Type} {a:α}:(BT.ret a).safe:=.ret a
theorem Zfx {α:Type} {c:Prop} [Decidable c] {a b:BT α} (ha:a.safe) (hb:b.safe):(if c then a else b).safe:=by split <;> assumption
theorem ZbP {α:Type} {e:Nat} (h:e≠0∧e≤10):(BT.err e:BT α).safe:=.err e h
theorem Zfy:∀ {n:Nat},(ZkX n).safe
 | 0=>.ret _
 | _+1=>.bit _ fun _=>Za7 Zfy fun _=>.ret _
theorem ZnR {l:List Nat}:∀ {f n v:Nat},(ZyE l f n v).safe
 | 0,_,_=>ZbP (by omega)
 | _+1,_,_=>.bit _ fun _=>Zfx (ZbP (by omega)) (Zfx Zb8 ZnR)
theorem ZoK {v n:Nat}:(Zhy v n).safe:=Za7 Zfy fun _=>Zb8
theorem ZDC {s:Nat}:(Zrf s).safe:=Zfx (ZbP (by omega)) (Zfx Zb8 (Zfx Zb8 ZoK))
theorem ZDD {s:Nat}:(ZsJ s).safe:=Zfx (ZbP (by omega)) (Zfx Zb8 ZoK)
theorem ZAz {most s:Nat} {d:List Nat} {out:List UInt8}:(ZyF most d out s).safe:=by
 unfold ZyF
 exact Za7 ZDC fun _=>Za7 ZnR fun _=>Za7 ZDD fun _=>Zfx (ZbP (by omega)) (Zfx (ZbP (by omega)) Zb8)
theorem ZvL {l d:List Nat} {most:Nat}:∀ (f:Nat) (out:List UInt8),(ZuJ l d most f out).safe:=by
 intro f
 induction f with
 | zero=>intro out;exact ZbP (by omega)
 | succ f ih =>
  intro out
  rw [ZuJ]
  refine Za7 ZnR fun s=>?_
  by_cases h:s<256
  ·rw [if_pos h]
   by_cases h2:most≤out.length
   ·rw [if_pos h2];exact ZbP (by omega)
   ·rw [if_neg h2];exact ih _
  ·rw [if_neg h]
   by_cases h2:s=256
   ·rw [if_pos h2];exact Zb8
   ·rw [if_neg h2];exact Za7 ZAz fun o=>ih o
theorem ZDE:∀ (n:Nat),(ZvH n).safe:=by
 intro n
 induction n with
 | zero=>exact Zb8
 | succ n ih=>rw [ZvH];exact Za7 Zfy fun x=>Za7 ih fun r=>Zb8
theorem ZDF {α:Type} {k:Nat→BT α} (h:∀ i,(k i).safe):(BT.pos k).safe:=.pos k h
theorem ZDG {most:Nat} {out:List UInt8}:(ZAw most out).safe:=by
 unfold ZAw
 refine ZDF fun i=>?_
 refine Za7 Zfy fun _=>?_
 refine Za7 Zfy fun n=>?_
 refine Za7 Zfy fun m=>?_
 by_cases h:n+m≠65535
 ·rw [if_pos h];exact ZbP (by omega)
 ·rw [if_neg h]
  refine Za7 (ZDE n) fun bs=>?_
  by_cases h2:most<out.length+n
  ·rw [if_pos h2];exact ZbP (by omega)
  ·rw [if_neg h2];exact Zb8
theorem ZDH:∀ (n k:Nat) (l:List Nat),(ZvI n k l).safe:=by
 intro n
 induction n with
 | zero=>intro k l;exact Zb8
 | succ n ih=>intro k l;rw [ZvI];exact Za7 Zfy fun x=>ih _ _
theorem ZAA {th:List Nat} {n:Nat}:∀ (f:Nat) (l:List Nat),(lsT th n f l).safe:=by
 intro f
 induction f with
 | zero=>intro l;exact ZbP (by omega)
 | succ f ih =>
  intro l
  rw [lsT]
  by_cases h:n≤l.length
  ·rw [if_pos h];exact Zb8
  ·rw [if_neg h]
   refine Za7 ZnR fun s=>?_
   by_cases h2:s=16∧l=[]
   ·rw [if_pos h2];exact ZbP (by omega)
   ·rw [if_neg h2]
    refine Za7 ZoK fun t=>?_
    by_cases h3:n<l.length+t
    ·rw [if_pos h3];exact ZbP (by omega)
    ·rw [if_neg h3];exact ih _
theorem ZvM {n:Nat}:(Zyd n).safe:=by
 unfold Zyd
 refine Za7 (ZDH _ _ _) fun th=>?_
 by_cases h2:ZnQ th=true
 ·rw [if_pos h2];exact Zb8
 ·rw [if_neg h2];exact ZbP (by omega)
theorem ZvN:Zye.safe:=by
 unfold Zye
 refine Za7 Zfy fun c=>?_
 by_cases h:286<c % 32+257∨30<c / 32 % 32+1
 ·rw [if_pos h];exact ZbP (by omega)
 ·rw [if_neg h]
  refine Za7 ZvM fun th=>Za7 (ZAA _ _) fun ls=>?_
  by_cases h3:ZB8 (ls.take (c % 32+257)) (ls.drop (c % 32+257))=true
  ·rw [if_pos h3];exact Zb8
  ·rw [if_neg h3];exact ZbP (by omega)
theorem ZvO {most F h:Nat} {out:List UInt8}:(ZuK most F out h).safe:=by
 unfold ZuK
 by_cases h0:h=0
 ·rw [if_pos h0];exact ZDG
 ·rw [if_neg h0]
  by_cases h1:h=1
  ·rw [if_pos h1];exact ZvL _ _
  ·rw [if_neg h1]
   by_cases h2:h=2
   ·rw [if_pos h2];exact Za7 ZvN fun p=>ZvL _ _
   ·rw [if_neg h2];exact ZbP (by omega)
theorem ZvP {most F:Nat} {out:List UInt8}:(ZvJ most F out).safe:=by
 unfold ZvJ
 exact Za7 Zfy fun h=>Za7 ZvO fun o=>Zb8
theorem ZDI {most F:Nat}:∀ (f:Nat) (out:List UInt8),(Zpk most F f out).safe:=by
 intro f
 induction f with
 | zero=>intro out;exact ZbP (by omega)
 | succ f ih =>
  intro out
  rw [Zpk]
  refine Za7 ZvP fun p=>?_
  by_cases h:p.1=true
  ·rw [if_pos h];exact Zb8
  ·rw [if_neg h];exact ih _
def cds (l d:List Nat):AV:=.fp (.agg [.fp (.agg (trR l)) 0,.fp (.agg (trR d)) 0]) 0
def fxA:Bool→AV
 | true=>cds ZAx ZAy
 | false=>.sc (.pointer none)
theorem ZlJ {l d:List Nat}:(cds l d).free=true:=by simp only [cds,AV.free,AV.free.freeL,ZbW,Bool.and_self]
theorem ZvQ {t:Bool}:(fxA t).free=true:=by
 cases t
 ·rfl
 ·exact ZlJ
theorem ZbZ {ρ:Nat→Nat→Nat × Nat} {l d:List Nat}:ren ρ (cds l d)=cds l d:=ZhN ρ _ ZlJ
theorem Zaa {ρ:Nat→Nat→Nat × Nat} {t:Bool}:ren ρ (fxA t)=fxA t:=ZhN ρ _ ZvQ
theorem ZAB {id g:Nat} {nl:Bool} {cells:List AV} {t:Bool}:fzo id g nl cells (fxA t)=fxA t:=by cases t <;> rfl
theorem ZhA {t:Bool}:Zaq (fxA t)=some [fxA t]:=by cases t <;> rfl
def unR (t:Bool) (most g n:Nat):List AV:=[.op 1001 0 0,.own 1002 g none 0 n,int (most:Int),fxA t]
def unI (t:Bool) (most:Nat) (nl:Bool) (b:List UInt8) (i:Nat) (out:List UInt8):List AO:=[.row false (unR t most 0 out.length),.row false (rdR nl b i),.row (nl0 out.length) (out.map u8)]
def unO (g:Nat) (t:Bool) (most:Nat) (nl:Bool) (b:List UInt8) (i:Nat) (out:List UInt8):List (Nat × Nat × AO):=[(1000,0,.row false (unR t most g out.length)),(1001,0,.row false (rdR nl b i)),(1002,g,.row (nl0 out.length) (out.map u8))]
theorem ZeI {t:Bool} {most:Nat} {nl:Bool} {b:List UInt8} {i:Nat} {out:List UInt8}:∀ m cells,AO.row m cells∈unI t most nl b i out→AV.gl.glL 1 cells:=by
 intro m cells h
 simp only [unI,List.mem_cons,AO.row.injEq,List.not_mem_nil,or_false] at h
 obtain ⟨-,rfl⟩ | ⟨-,rfl⟩ | ⟨-,rfl⟩:=h
 ·simp only [unR,AV.gl.glL,AV.gl,int,and_true]
  exact ⟨by omega,by omega,trivial,Zcr 1 _ ZvQ⟩
 ·simp only [rdR,AV.gl.glL,AV.gl,and_true]
  exact Zae _ _ Zak
 ·exact Zae _ _ Zak
set_option maxRecDepth 100000 in
theorem Zyf [Tabs Tryz.prog] (t:Bool) (most:Nat) (nl:Bool) (b:List UInt8) (hb:b.length≤1000000) (i:Nat) (hi:i≤8*b.length) (out:List UInt8) (v n:Nat) (hn:n≤24) (hv:v<100000) (hin:i+n≤8*b.length) :
  HCon Tryz.prog ZaU [.op 1000 0 0,int (v:Int),int (n:Int)] (unI t most nl b i out) (.tup [int ((v+Zb6 b i n:Nat):Int),int 0]) (unO 0 t most nl b (i+n) out) 40:=by
 refine HCon.of' mix Tryz.func139 rfl Tryz.ntmps139 Zd1 Zd2 (by simp) (by simp [AV.gl,AV.gl.glL,int]) ZeI ?_
 unfold Zcj
 have hT:=Zdw nl b hb i hi n hn hin
 have hlt:=Zjx (b:=b) (i:=i) (n:=n)
 have hp:2^n≤16777216:=Zcf (n:=n) (m:=24) hn
 obtain ⟨x,hx⟩:∃ x,x=Zb6 b i n:=⟨_,rfl⟩
 rw [←hx] at hT hlt ⊢
 repeat (first | refine zR (ja2 @unI.eq_1 @unR.eq_1) ?_ | exact zU (ja2 @unI.eq_1 @unR.eq_1))
 refine Zag [(1001,0)] 2000 hT (by simp) (by simp) ?_ ?_ ?_
 iterate 2 (case _=>(first | exact yU @rdR.eq_1 | refine yR @rdR.eq_1 ?_))
 repeat (first | refine zR (ja3 @rdR.eq_1 @unO.eq_1 @unR.eq_1) ?_ | exact zU (ja3 @rdR.eq_1 @unO.eq_1 @unR.eq_1))
set_option maxRecDepth 100000 in
theorem ZuL [Tabs Tryz.prog] (t:Bool) (most:Nat) (nl:Bool) (b:List UInt8) (hb:b.length≤1000000) (i:Nat) (hi:i≤8*b.length) (out:List UInt8) (v n:Nat) (hin:¬ i+n≤8*b.length) :
  HCon Tryz.prog ZaU [.op 1000 0 0,int (v:Int),int (n:Int)] (unI t most nl b i out) (.tup [int 0,int 2]) [] 40:=by
 refine HCon.of' mix Tryz.func139 rfl Tryz.ntmps139 Zd1 Zd2 (by simp) (by simp [AV.gl,AV.gl.glL,int]) ZeI ?_
 unfold Zcj
 have hT:=ZdG nl b hb i hi (n:Int) (decide_eq_false (by omega))
 repeat (first | refine zR (ja2 @unI.eq_1 @unR.eq_1) ?_ | exact zU (ja2 @unI.eq_1 @unR.eq_1))
 refine Zag [(1001,0)] 2000 hT (by simp) (by simp) ?_ ?_ ?_
 iterate 2 (case _=>(first | exact yU @rdR.eq_1 | refine yR @rdR.eq_1 ?_))
 repeat (first | refine zR (ja3 @rdR.eq_1 @unO.eq_1 @unR.eq_1) ?_ | exact zU (ja3 @rdR.eq_1 @unO.eq_1 @unR.eq_1))
theorem ZhB [Tabs Tryz.prog] (t:Bool) (most:Nat) (hm:most≤16777216) (nl:Bool) (b:List UInt8) (i:Nat) (out:List UInt8) (ho:out.length≤most) :
  HCon Tryz.prog ZbB [.op 1000 0 0] (unI t most nl b i out) (int ((most-out.length:Nat):Int)) (unO 0 t most nl b i out) 1:=by
 refine HCon.of' mix Tryz.func100 rfl Tryz.ntmps100 ZhY ZhZ (by simp) (by simp [AV.gl,AV.gl.glL,int]) ZeI ?_
 unfold Zd0
 have e:(most:Int)-(out.length:Int)=((most-out.length:Nat):Int):=by omega
 repeat (first | refine zR (ja4 @unI.eq_1 @unO.eq_1 @unR.eq_1 @e) ?_ | exact zU (ja4 @unI.eq_1 @unO.eq_1 @unR.eq_1 @e))
set_option maxRecDepth 100000 in
theorem ZpE [Tabs Tryz.prog] (t:Bool) (most:Nat) (hm:most≤16777216) (nl:Bool) (b:List UInt8) (i:Nat) (out:List UInt8) (ho:out.length≤most) (c:UInt8) (hf:most≤out.length) :
  HCon Tryz.prog ZbQ [.op 1000 0 0,u8 c] (unI t most nl b i out) (int 4) [] 10:=by
 refine HCon.of' mix Tryz.func103 rfl Tryz.ntmps103 ZcZ Zc0 (by simp) (by simp [AV.gl,AV.gl.glL,u8]) ZeI ?_
 unfold ZbS
 have d:decide (((most-out.length:Nat):Int)<1)=true:=decide_eq_true (by omega)
 repeat (first | refine zS ?_ | exact zT)
 refine Zag [(1000,0),(1001,0),(1002,0)] 2000 (ZhB t most hm nl b i out ho) (by simp) (by simp) ?_ ?_ ?_
 iterate 2 (case _=>(first | exact yU (ja4 @unI.eq_1 @unR.eq_1 @rdR.eq_1 @Zaa) | refine yR (ja4 @unI.eq_1 @unR.eq_1 @rdR.eq_1 @Zaa) ?_))
 repeat (first | refine zR (ja5 @unO.eq_1 @unR.eq_1 @rdR.eq_1 @Zaa @d) ?_ | exact zU (ja5 @unO.eq_1 @unR.eq_1 @rdR.eq_1 @Zaa @d))
set_option maxRecDepth 100000 in
theorem Zri [Tabs Tryz.prog] (t:Bool) (most:Nat) (hm:most≤16777216) (nl:Bool) (b:List UInt8) (i:Nat) (out:List UInt8) (hf:out.length<most) (c:UInt8) :
  HCon Tryz.prog ZbQ [.op 1000 0 0,u8 c] (unI t most nl b i out) (int 0) (unO 2 t most nl b i (out++[c])) 10:=by
 refine HCon.of' mix Tryz.func103 rfl Tryz.ntmps103 ZcZ Zc0 (by simp) (by simp [AV.gl,AV.gl.glL,u8]) ZeI ?_
 unfold ZbS
 have d:decide (((most-out.length:Nat):Int)<1)=false:=decide_eq_false (by omega)
 repeat (first | refine zS ?_ | exact zT)
 refine Zag [(1000,0),(1001,0),(1002,0)] 2000 (ZhB t most hm nl b i out (by omega)) (by simp) (by simp) ?_ ?_ ?_
 iterate 2 (case _=>(first | exact yU (ja4 @unI.eq_1 @unR.eq_1 @rdR.eq_1 @Zaa) | refine yR (ja4 @unI.eq_1 @unR.eq_1 @rdR.eq_1 @Zaa) ?_))
 repeat (first | refine zR (ja7 @unO.eq_1 @unR.eq_1 @rdR.eq_1 @Zaa @d @ZhA @Zgn) ?_ | exact zU (ja7 @unO.eq_1 @unR.eq_1 @rdR.eq_1 @Zaa @d @ZhA @Zgn))
def Ans {α:Type} (P:Program) [Tabs P] (f:Nat) (ins:List AV) (hin:List AO) (r:BR α) (good:α→AV) (hout:α→Nat→List (Nat × Nat × AO)) (bad:Nat→AV) (k:Nat):Prop :=
 match r with
 | .ok a j=>HCon P f ins hin (good a) (hout a j) k
 | .no e=>(e≠0∧e≤10)∧HCon P f ins hin (bad e) [] k
def okI (v:Nat):AV:=.tup [int (v:Int),int 0]
def noI (e:Nat):AV:=.tup [int 0,int (e:Int)]
theorem ZmB [Tabs Tryz.prog] (t:Bool) (most:Nat) (nl:Bool) (b:List UInt8) (hb:b.length≤1000000) (i:Nat) (hi:i≤8*b.length) (out:List UInt8) (v n:Nat) (hn:n≤24) (hv:v<100000) :
  Ans Tryz.prog ZaU [.op 1000 0 0,int (v:Int),int (n:Int)] (unI t most nl b i out) ((Zhy v n).run (Zah b) i) okI (fun _ j=>unO 0 t most nl b j out) noI 40:=by
 rw [Zhy,Zav,ZeH hi]
 split
 ·exact Zyf t most nl b hb i hi out v n hn hv (by assumption)
 ·exact ⟨by omega,ZuL t most nl b hb i hi out v n (by assumption)⟩
set_option maxRecDepth 100000 in
theorem ZsK [Tabs Tryz.prog] (t:Bool) (most:Nat) (nl:Bool) (b:List UInt8) (hb:b.length≤1000000) (i:Nat) (hi:i≤8*b.length) (out:List UInt8) (s:Nat) (hs:s<1000) :
  Ans Tryz.prog Zc9 [.op 1000 0 0,int (s:Int)] (unI t most nl b i out) ((Zrf s).run (Zah b) i) okI (fun _ j=>unO 0 t most nl b j out) noI 50:=by
 by_cases c1:29≤s
 ·rw [show Zrf s = .err 3 by rw [Zrf,if_pos c1]]
  refine ⟨by omega,HCon.of' mix Tryz.func136 rfl Tryz.ntmps136 Za0 Za1 (by simp) (by simp [AV.gl,AV.gl.glL,int]) ZeI ?_⟩
  unfold ZaI
  have d1:decide ((29:Int)≤(s:Int))=true:=decide_eq_true (by omega)
  repeat (first | refine zR (ja2 @d1 @noI.eq_1) ?_ | exact zU (ja2 @d1 @noI.eq_1))
 have d1:decide ((29:Int)≤(s:Int))=false:=decide_eq_false (by omega)
 by_cases c2:s=28
 ·subst c2
  rw [show Zrf 28 = .ret 258 from rfl]
  refine HCon.of' mix Tryz.func136 rfl Tryz.ntmps136 Za0 Za1 (by simp) (by simp [AV.gl,AV.gl.glL,int]) ZeI ?_
  unfold ZaI
  repeat (first | refine zR (ja5 @d1 @okI.eq_1 @unI.eq_1 @unR.eq_1 @unO.eq_1) ?_ | exact zU (ja5 @d1 @okI.eq_1 @unI.eq_1 @unR.eq_1 @unO.eq_1))
 have d2:decide ((s:Int)=28)=false:=decide_eq_false (by omega)
 by_cases c3:s<8
 ·rw [show Zrf s = .ret (3+s) by rw [Zrf,if_neg c1,if_neg c2,if_pos c3]]
  refine HCon.of' mix Tryz.func136 rfl Tryz.ntmps136 Za0 Za1 (by simp) (by simp [AV.gl,AV.gl.glL,int]) ZeI ?_
  unfold ZaI
  have d3:decide ((s:Int)<8)=true:=decide_eq_true (by omega)
  repeat (first | refine zR (ja7 @d1 @d2 @d3 @okI.eq_1 @unI.eq_1 @unR.eq_1 @unO.eq_1) ?_ | exact zU (ja7 @d1 @d2 @d3 @okI.eq_1 @unI.eq_1 @unR.eq_1 @unO.eq_1))
 have d3:decide ((s:Int)<8)=false:=decide_eq_false (by omega)
 rw [show Zrf s=Zhy (3+(4+s % 4)*2^(s / 4-1)) (s / 4-1) by rw [Zrf,if_neg c1,if_neg c2,if_neg c3]]
 obtain ⟨k,hk⟩:∃ k,k=s / 4-1:=⟨_,rfl⟩
 obtain ⟨m,hm⟩:∃ m,m=s % 4:=⟨_,rfl⟩
 obtain ⟨q,hq⟩:∃ q,q=s / 4:=⟨_,rfl⟩
 have e1:(q:Int)-1=(k:Int):=by omega
 have hk6:k≤6:=by omega
 have hm4:m<4:=by omega
 have hp:2^k≤64:=Zcf (n:=k) (m:=6) hk6
 have hz2:(4+m)*2^k≤7*64:=Nat.mul_le_mul (by omega) hp
 obtain ⟨p,hpd⟩:∃ p,p=2^k:=⟨_,rfl⟩
 obtain ⟨z,hz⟩:∃ z,z=(4+m)*2^k:=⟨_,rfl⟩
 have e2:((4:Int)+(m:Int))*2^k=(z:Int):=by rw [hz,Int.natCast_mul,Int.natCast_add,Int.natCast_pow];rfl
 rw [←hk,←hm,←hz]
 rw [←hz] at hz2
 have hA:=ZmB t most nl b hb i hi out (3+z) k (by omega) (by omega)
 obtain ⟨r,hr⟩:∃ r,r=(Zhy (3+z) k).run (Zah b) i:=⟨_,rfl⟩
 rw [←hr] at hA ⊢
 cases r with
 | ok a j =>
  refine HCon.of' mix Tryz.func136 rfl Tryz.ntmps136 Za0 Za1 (by simp) (by simp [AV.gl,AV.gl.glL,int]) ZeI ?_
  unfold ZaI
  repeat (first | refine zR (ja7 @d1 @d2 @d3 hq.symm hm.symm @e1 @e2) ?_ | exact zU (ja7 @d1 @d2 @d3 hq.symm hm.symm @e1 @e2))
  refine Zag [(1000,0),(1001,0),(1002,0)] 2000 hA (by simp) (by simp) ?_ ?_ ?_
  iterate 2 (case _=>(first | exact yU (ja4 @unI.eq_1 @unR.eq_1 @rdR.eq_1 @Zaa) | refine yR (ja4 @unI.eq_1 @unR.eq_1 @rdR.eq_1 @Zaa) ?_))
  repeat (first | refine zR (ja5 @okI.eq_1 @unO.eq_1 @unR.eq_1 @rdR.eq_1 @Zaa) ?_ | exact zU (ja5 @okI.eq_1 @unO.eq_1 @unR.eq_1 @rdR.eq_1 @Zaa))
 | no e =>
  refine ⟨hA.1,HCon.of' mix Tryz.func136 rfl Tryz.ntmps136 Za0 Za1 (by simp) (by simp [AV.gl,AV.gl.glL,int]) ZeI ?_⟩
  unfold ZaI
  repeat (first | refine zR (ja7 @d1 @d2 @d3 hq.symm hm.symm @e1 @e2) ?_ | exact zU (ja7 @d1 @d2 @d3 hq.symm hm.symm @e1 @e2))
  refine Zag [(1000,0),(1001,0),(1002,0)] 2000 hA.2 (by simp) (by simp) ?_ ?_ ?_
  iterate 2 (case _=>(first | exact yU (ja4 @unI.eq_1 @unR.eq_1 @rdR.eq_1 @Zaa) | refine yR (ja4 @unI.eq_1 @unR.eq_1 @rdR.eq_1 @Zaa) ?_))
  repeat (first | refine zR (ja5 @noI.eq_1 @unO.eq_1 @unR.eq_1 @rdR.eq_1 @Zaa) ?_ | exact zU (ja5 @noI.eq_1 @unO.eq_1 @unR.eq_1 @rdR.eq_1 @Zaa))
set_option maxRecDepth 100000 in
theorem ZpF [Tabs Tryz.prog] (t:Bool) (most:Nat) (nl:Bool) (b:List UInt8) (hb:b.length≤1000000) (i:Nat) (hi:i≤8*b.length) (out:List UInt8) (s:Nat) (hs:s<1000) :
  Ans Tryz.prog ZcK [.op 1000 0 0,int (s:Int)] (unI t most nl b i out) ((ZsJ s).run (Zah b) i) okI (fun _ j=>unO 0 t most nl b j out) noI 50:=by
 by_cases c1:30≤s
 ·rw [show ZsJ s = .err 3 by rw [ZsJ,if_pos c1]]
  refine ⟨by omega,HCon.of' mix Tryz.func137 rfl Tryz.ntmps137 Zbd Zbe (by simp) (by simp [AV.gl,AV.gl.glL,int]) ZeI ?_⟩
  unfold ZaR
  have d1:decide ((30:Int)≤(s:Int))=true:=decide_eq_true (by omega)
  repeat (first | refine zR (ja2 @d1 @noI.eq_1) ?_ | exact zU (ja2 @d1 @noI.eq_1))
 have d1:decide ((30:Int)≤(s:Int))=false:=decide_eq_false (by omega)
 by_cases c3:s<4
 ·rw [show ZsJ s = .ret (1+s) by rw [ZsJ,if_neg c1,if_pos c3]]
  refine HCon.of' mix Tryz.func137 rfl Tryz.ntmps137 Zbd Zbe (by simp) (by simp [AV.gl,AV.gl.glL,int]) ZeI ?_
  unfold ZaR
  have d3:decide ((s:Int)<4)=true:=decide_eq_true (by omega)
  repeat (first | refine zR (ja6 @d1 @d3 @okI.eq_1 @unI.eq_1 @unR.eq_1 @unO.eq_1) ?_ | exact zU (ja6 @d1 @d3 @okI.eq_1 @unI.eq_1 @unR.eq_1 @unO.eq_1))
 have d3:decide ((s:Int)<4)=false:=decide_eq_false (by omega)
 rw [show ZsJ s=Zhy (1+(2+s % 2)*2^(s / 2-1)) (s / 2-1) by rw [ZsJ,if_neg c1,if_neg c3]]
 obtain ⟨k,hk⟩:∃ k,k=s / 2-1:=⟨_,rfl⟩
 obtain ⟨m,hm⟩:∃ m,m=s % 2:=⟨_,rfl⟩
 obtain ⟨q,hq⟩:∃ q,q=s / 2:=⟨_,rfl⟩
 have e1:(q:Int)-1=(k:Int):=by omega
 have hk6:k≤13:=by omega
 have hm4:m<2:=by omega
 have hp:2^k≤8192:=Zcf (n:=k) (m:=13) hk6
 have hz2:(2+m)*2^k≤3*8192:=Nat.mul_le_mul (by omega) hp
 obtain ⟨p,hpd⟩:∃ p,p=2^k:=⟨_,rfl⟩
 obtain ⟨z,hz⟩:∃ z,z=(2+m)*2^k:=⟨_,rfl⟩
 have e2:((2:Int)+(m:Int))*2^k=(z:Int):=by rw [hz,Int.natCast_mul,Int.natCast_add,Int.natCast_pow];rfl
 rw [←hk,←hm,←hz]
 rw [←hz] at hz2
 have hA:=ZmB t most nl b hb i hi out (1+z) k (by omega) (by omega)
 obtain ⟨r,hr⟩:∃ r,r=(Zhy (1+z) k).run (Zah b) i:=⟨_,rfl⟩
 rw [←hr] at hA ⊢
 cases r with
 | ok a j =>
  refine HCon.of' mix Tryz.func137 rfl Tryz.ntmps137 Zbd Zbe (by simp) (by simp [AV.gl,AV.gl.glL,int]) ZeI ?_
  unfold ZaR
  repeat (first | refine zR (ja6 @d1 @d3 hq.symm hm.symm @e1 @e2) ?_ | exact zU (ja6 @d1 @d3 hq.symm hm.symm @e1 @e2))
  refine Zag [(1000,0),(1001,0),(1002,0)] 2000 hA (by simp) (by simp) ?_ ?_ ?_
  iterate 2 (case _=>(first | exact yU (ja4 @unI.eq_1 @unR.eq_1 @rdR.eq_1 @Zaa) | refine yR (ja4 @unI.eq_1 @unR.eq_1 @rdR.eq_1 @Zaa) ?_))
  repeat (first | refine zR (ja5 @okI.eq_1 @unO.eq_1 @unR.eq_1 @rdR.eq_1 @Zaa) ?_ | exact zU (ja5 @okI.eq_1 @unO.eq_1 @unR.eq_1 @rdR.eq_1 @Zaa))
 | no e =>
  refine ⟨hA.1,HCon.of' mix Tryz.func137 rfl Tryz.ntmps137 Zbd Zbe (by simp) (by simp [AV.gl,AV.gl.glL,int]) ZeI ?_⟩
  unfold ZaR
  repeat (first | refine zR (ja6 @d1 @d3 hq.symm hm.symm @e1 @e2) ?_ | exact zU (ja6 @d1 @d3 hq.symm hm.symm @e1 @e2))
  refine Zag [(1000,0),(1001,0),(1002,0)] 2000 hA.2 (by simp) (by simp) ?_ ?_ ?_
  iterate 2 (case _=>(first | exact yU (ja4 @unI.eq_1 @unR.eq_1 @rdR.eq_1 @Zaa) | refine yR (ja4 @unI.eq_1 @unR.eq_1 @rdR.eq_1 @Zaa) ?_))
  repeat (first | refine zR (ja5 @noI.eq_1 @unO.eq_1 @unR.eq_1 @rdR.eq_1 @Zaa) ?_ | exact zU (ja5 @noI.eq_1 @unO.eq_1 @unR.eq_1 @rdR.eq_1 @Zaa))
def kn:List Nat→Nat→Nat
 | [],_=>0
 | x::r,n=>(if x<n then wt x else 0)+kn r n
theorem ZuM {l:List Nat} {n:Nat}:kn l (n+1)=kn l n+l.count n*wt n:=by
 induction l with
 | nil=>simp [kn]
 | cons x l ih =>
  simp only [kn,ih,List.count_cons]
  by_cases e:x=n
  ·subst e;simp [Nat.add_mul];omega
  ·by_cases e2:x<n
   ·rw [if_pos (by omega),if_pos e2];simp [e];omega
   ·rw [if_neg (by omega),if_neg e2];simp [e]
theorem ZHY {l:List Nat} (h:∀ x∈l,x≤15):kn l 16=ZaA l:=by
 induction l with
 | nil=>rfl
 | cons x l ih =>
  have:=h x (by simp)
  simp only [kn,ZaA,ih fun y hy=>h y (by simp [hy])]
  rw [if_pos (by omega)]
theorem ZGa {l:List Nat}:kn l 0=0:=by
 induction l with
 | nil=>rfl
 | cons x l ih=>simp only [kn,ih];simp
theorem ZHZ {n:Nat} (h0:n≠0) (h:n≤15):wt n=2^(15-n):=by
 unfold wt;rw [if_neg h0]
 exact Nat.pow_div h (by omega) (x:=2)
theorem ZDJ {n:Nat} (h:n<15):2^(15-n)=2*2^(15-(n+1)):=by
 rw [show 15-n=(15-(n+1))+1 by omega,Nat.pow_succ];omega
theorem ZH0 {l:List Nat}:∀ {n:Nat},n≤15→kn l n=fr l n*2^(15-n)
 | 0,_=>by simp [ZGa,fr]
 | n+1,h=>by
  have ih:=ZH0 (l:=l) (n:=n) (by omega)
  rw [ZuM,ih]
  by_cases h0:n=0
  ·subst h0;simp [wt,fr,cn]
  ·rw [ZHZ h0 (by omega),ZDJ (n:=n) (by omega),fr,cn,if_neg h0,←Nat.add_mul,←Nat.mul_assoc,Nat.mul_comm (fr l n+l.count n) 2]
theorem ZH1 {l:List Nat} {n:Nat} (h:∀ x∈l,x≤15) (hn:n≤15):(fr l n+cn l n)*2^(15-n)≤ZaA l:=by
 have mono:∀ m k,kn l m≤kn l (m+k):=fun m k=>by
  induction k with
  | zero=>exact Nat.le_refl _
  | succ k ih=>rw [show m+(k+1)=m+k+1 by omega,ZuM];omega
 have h1:=mono (n+1) (15-n)
 rw [show n+1+(15-n)=16 by omega,ZHY h,ZuM,ZH0 hn] at h1
 by_cases h0:n=0
 ·subst h0;simp [fr,cn]
 ·rw [ZHZ h0 hn] at h1
  rw [cn,if_neg h0,Nat.add_mul];exact h1
theorem ZEw {l:List Nat} {n:Nat}:∀ {d:Nat},(fr l n+cn l n)*2^(d+1)≤fr l (n+(d+1))
 | 0=>by rw [Nat.zero_add];show _≤2*(fr l n+cn l n);omega
 | d+1=>by
  have ih:=ZEw (l:=l) (n:=n) (d:=d)
  show _≤2*(fr l (n+(d+1))+cn l (n+(d+1)))
  rw [Nat.pow_succ,←Nat.mul_assoc];omega
theorem ZAC {l:List Nat} {s m:Nat} (hs:s<l.length) (hm:l.getD s 0=m) (h0:m≠0):fr l m≤Zbx l s∧Zbx l s-fr l m=(l.take s).count m∧(l.take s).count m<cn l m:=by
 have hc:Zbx l s=fr l m+(l.take s).count m:=by unfold Zbx;rw [hm,if_neg h0]
 refine ⟨by omega,by omega,?_⟩
 rw [cn,if_neg h0]
 have:=Zhx (n:=m) hs
 rw [if_pos hm.symm] at this
 have h2:(l.take (s+1)).count m≤l.count m:=List.Sublist.count_le m (List.take_sublist _ _)
 omega
theorem ZAD {l:List Nat} {s m:Nat} (hm:l.getD s 0=m) (h0:m≠0):∀ {k:Nat},s<k→k≤l.length→(Zej l k m).getD ((l.take s).count m) 0=s
 | 0,h,_=>by omega
 | k+1,h,hk=>by
  rw [ZeW h0]
  have hlen:(Zej l k m).length=(l.take k).count m:=by rw [ZeG (by omega),if_neg h0]
  by_cases e:s=k
  ·subst e
   rw [if_pos hm]
   simp only [List.getD]
   rw [List.getElem?_append_right (by omega),hlen];simp
  ·have ih:=ZAD hm h0 (k:=k) (by omega) (by omega)
   split
   ·simp only [List.getD] at ih ⊢
    have hlt:(l.take s).count m<(Zej l k m).length:=by
     rw [hlen]
     have h1:=Zhx (n:=m) (l:=l) (k:=s) (by omega)
     rw [if_pos hm.symm] at h1
     have h2:(l.take (s+1)).count m≤(l.take k).count m:=by
      have:l.take (s+1)=(l.take k).take (s+1):=by rw [List.take_take];congr 1;omega
      rw [this];exact List.Sublist.count_le m (List.take_sublist _ _)
     omega
    rw [List.getElem?_append_left hlt];exact ih
   ·exact ih
theorem ZGb {l:List Nat} {m j:Nat} (h0:m≠0) (hj:j<cn l m):(Zej l l.length m).getD j 0<l.length∧l.getD ((Zej l l.length m).getD j 0) 0=m∧Zbx l ((Zej l l.length m).getD j 0)=fr l m+j:=by
 have key:∀ k,k≤l.length→∀ j,j<(Zej l k m).length→(Zej l k m).getD j 0<k∧l.getD ((Zej l k m).getD j 0) 0=m∧(l.take ((Zej l k m).getD j 0)).count m=j:=by
  intro k
  induction k with
  | zero=>intro _ j hj;rw [ZeG (by omega),if_neg h0] at hj;simp at hj
  | succ k ih =>
   intro hk j hj
   have ih:=ih (by omega)
   have hlen:(Zej l k m).length=(l.take k).count m:=by rw [ZeG (by omega),if_neg h0]
   rw [ZeW h0] at hj ⊢
   split
   ·rename_i e
    rw [if_pos e,List.length_append,List.length_singleton] at hj
    by_cases hjl:j<(Zej l k m).length
    ·have:=ih j hjl
     have e2:(Zej l k m++[k]).getD j 0=(Zej l k m).getD j 0:=by simp only [List.getD];rw [List.getElem?_append_left hjl]
     rw [e2]
     exact ⟨by omega,this.2.1,this.2.2⟩
    ·have e2:(Zej l k m++[k]).getD j 0=k:=by simp only [List.getD];rw [List.getElem?_append_right (by omega)];simp [show j-(Zej l k m).length=0 by omega]
     rw [e2]
     exact ⟨by omega,e,by omega⟩
   ·rename_i e
    rw [if_neg e] at hj
    have:=ih j hj
    exact ⟨by omega,this.2.1,this.2.2⟩
 have h:=key l.length (Nat.le_refl _) j (by rw [Zjg];exact hj)
 refine ⟨h.1,h.2.1,?_⟩
 unfold Zbx
 rw [h.2.1,if_neg h0,h.2.2]
theorem ZGc {l:List Nat} (h15:∀ x∈l,x≤15) (hK:ZaA l≤32768) {s m:Nat} (hs:s<l.length) (hm:l.getD s 0=m) (h0:m≠0) (hm15:m≤15):Zbx l s<2^m:=by
 obtain ⟨h1,h2,h3⟩:=ZAC hs hm h0
 have h4:=ZH1 h15 hm15
 have h5:(Zbx l s+1)*2^(15-m)≤2^m*2^(15-m):=by
  rw [←Nat.pow_add,show m+(15-m)=15 by omega]
  refine Nat.le_trans (Nat.mul_le_mul_right _ ?_) (Nat.le_trans h4 hK)
  omega
 exact Nat.le_of_mul_le_mul_right h5 (Nat.pow_pos (by omega))
theorem ZGd {l:List Nat} (h15:∀ x∈l,x≤15) (hK:ZaA l≤32768) {s m:Nat} (hs:s<l.length) (hm:l.getD s 0=m) (h0:m≠0) (hm15:m≤15) {B:List Nat} (hB:m≤B.length) (hrow:∀ j,j<m→B.getD j 0=Zbx l s / 2^(m-1-j) % 2) :
  nxt l B 15 0 0=(s,m,0):=by
 obtain ⟨h1,h2,h3⟩:=ZAC hs hm h0
 have hlt:=ZGc h15 hK hs hm h0 hm15
 have key:∀ d n,d=m-n→n<m→nxt l B (15-n) n (Zbx l s / 2^(m-n))=(s,m,0):=by
  intro d
  induction d with
  | zero=>intro n hd hn;omega
  | succ d ih =>
   intro n hd hn
   have hf:15-n=(14-n)+1:=by omega
   have hv:2*(Zbx l s / 2^(m-n))+B.getD n 0=Zbx l s / 2^(m-(n+1)):=by
    rw [hrow n hn,show m-1-n=m-(n+1) by omega,show m-n=(m-(n+1))+1 by omega,Nat.pow_succ,←Nat.div_div_eq_div_mul]
    omega
   rw [hf,nxt,if_neg (by omega),hv]
   have hc:Zbx l s / 2^(m-(n+1))*2^(15-(n+1))<ZaA l:=by
    have a1:Zbx l s / 2^(m-(n+1))*2^(m-(n+1))≤Zbx l s:=Nat.div_mul_le_self _ _
    have a2:2^(15-(n+1))=2^(m-(n+1))*2^(15-m):=by rw [←Nat.pow_add];congr 1;omega
    have a3:=ZH1 h15 hm15
    have a4:Zbx l s*2^(15-m)<(fr l m+cn l m)*2^(15-m):=Nat.mul_lt_mul_of_pos_right (by omega) (Nat.pow_pos (by omega))
    rw [a2,←Nat.mul_assoc]
    exact Nat.lt_of_le_of_lt (Nat.mul_le_mul_right _ a1) (Nat.lt_of_lt_of_le a4 a3)
   rw [if_neg (by omega)]
   by_cases e:n+1=m
   ·subst e
    rw [Nat.sub_self,Nat.pow_zero,Nat.div_one,h2,if_pos h3,ZAD hm h0 hs (Nat.le_refl _)]
   ·have hfar:fr l (n+1)+cn l (n+1)≤Zbx l s / 2^(m-(n+1)):=by
     rw [Nat.le_div_iff_mul_le (Nat.pow_pos (by omega))]
     have:=ZEw (l:=l) (n:=n+1) (d:=m-(n+1)-1)
     rw [show m-(n+1)-1+1=m-(n+1) by omega,show n+1+(m-(n+1))=m by omega] at this
     omega
    rw [if_neg (by omega)]
    have:=ih (n+1) (by omega) (by omega)
    rw [show 15-(n+1)=14-n by omega] at this
    exact this
 have:=key m 0 (by omega) (by omega)
 rw [Nat.sub_zero,Nat.sub_zero,Nat.div_eq_of_lt hlt] at this
 exact this
theorem ZoL {l B:List Nat}:∀ (f n v:Nat),(nxt l B f n v).2.2=0→(nxt l B f n v).1<l.length∧n<(nxt l B f n v).2.1
 | 0,n,v,h=>by simp [nxt] at h
 | f+1,n,v,h=>by
  rw [nxt] at h ⊢
  split
  ·rename_i c;rw [if_pos c] at h;simp at h
  ·rename_i c
   rw [if_neg c] at h
   split
   ·rename_i c;rw [if_pos c] at h;simp at h
   ·rename_i c
    rw [if_neg c] at h
    split
    ·rename_i c;exact ⟨(ZGb (by omega) c).1,by simp only;omega⟩
    ·rename_i c
     rw [if_neg c] at h
     have:=ZoL f (n+1) _ h
     exact ⟨this.1,by omega⟩
theorem ZAE {b:List UInt8} {most s i j:Nat} {d:List Nat} {out o:List UInt8} (h:(ZyF most d out s).run (Zah b) i = .ok o j):o.length≤most:=by
 rw [ZyF,Zav] at h
 cases h1:(Zrf s).run (Zah b) i with
 | no e=>rw [h1] at h;cases h
 | ok n k =>
  rw [h1] at h
  simp only [BR.bnd] at h
  rw [Zav] at h
  cases h2:(ZyE d 15 0 0).run (Zah b) k with
  | no e=>rw [h2] at h;cases h
  | ok t k2 =>
   rw [h2] at h
   simp only [BR.bnd] at h
   rw [Zav] at h
   cases h3:(ZsJ t).run (Zah b) k2 with
   | no e=>rw [h3] at h;cases h
   | ok z k3 =>
    rw [h3] at h
    simp only [BR.bnd] at h
    split at h
    ·cases h
    ·split at h
     ·cases h
     ·simp only [BT.run,BR.ok.injEq] at h
      rw [←h.1,ZmA];omega
set_option maxHeartbeats 1000000 in
set_option maxRecDepth 100000 in
theorem ZAF [Tabs Tryz.prog] (t:Bool) (most:Nat) (hm:most≤16777216) (nl:Bool) (b:List UInt8) (hb:b.length≤1000000) (i:Nat) (hi:i≤8*b.length) (out:List UInt8) (ho:out.length≤most) (s:Nat) (hs:s<1000) (d:List Nat) (hd:d.length≤320) (hK:ZaA d≤32768) :
  Ans Tryz.prog Zen [.op 1000 0 0,int (s:Int),.fp (.agg (trR d)) 0] (unI t most nl b i out) ((ZyF most d out s).run (Zah b) i) (fun _=>int 0) (fun o j=>unO 500 t most nl b j o) (fun e=>int (e:Int)) 600:=by
 rw [ZyF,Zav]
 have hL:=ZsK t most nl b hb i hi out s hs
 have hLi:=fun a j (h:(Zrf s).run (Zah b) i = .ok a j)=>(Zgc h).2 (by rw [Zad];exact hi)
 have hn58:=fun a j (h:(Zrf s).run (Zah b) i = .ok a j)=>ZF8 h
 obtain ⟨r1,hr1⟩:∃ r,r=(Zrf s).run (Zah b) i:=⟨_,rfl⟩
 rw [←hr1] at hL hLi hn58 ⊢
 cases r1 with
 | no e1 =>
  have de:decide ((e1:Int)=0)=false:=decide_eq_false (by have:=hL.1;omega)
  refine ⟨hL.1,HCon.of' mix Tryz.func104 rfl Tryz.ntmps104 ZaX ZaY (by simp) (by simp only [AV.gl.glL,AV.gl,int,and_true];exact ⟨by omega,trivial,Zae 1 _ ZbW⟩) ZeI ?_⟩
  unfold ZaM
  repeat (first | refine zS ?_ | exact zT)
  refine Zag [(1000,0),(1001,0),(1002,0)] 2000 hL.2 (by simp) (by simp) ?_ ?_ ?_
  iterate 2 (case _=>(first | exact yU (ja5 @unI.eq_1 @unR.eq_1 @rdR.eq_1 @Zaa @Zac) | refine yR (ja5 @unI.eq_1 @unR.eq_1 @rdR.eq_1 @Zaa @Zac) ?_))
  repeat (first | refine zR (ja8 @unI.eq_1 @unO.eq_1 @unR.eq_1 @rdR.eq_1 @Zaa @Zac @okI.eq_1 (ja2 @noI.eq_1 @de)) ?_ | exact zU (ja8 @unI.eq_1 @unO.eq_1 @unR.eq_1 @rdR.eq_1 @Zaa @Zac @okI.eq_1 (ja2 @noI.eq_1 @de)))
 | ok n j =>
  have hj:=hLi n j rfl
  have hn:=hn58 n j rfl
  rw [Zad] at hj
  clear hr1 hLi hn58
  simp only [BR.bnd]
  rw [Zav,ZoJ]
  have hfc:=ZlI (l:=d) (B:=(Zah b).drop j) 15 0 0 (Nat.zero_le _)
  have hsy:=ZoL (l:=d) (B:=(Zah b).drop j) 15 0 0
  have hN:=ZkM d hd hK nl b hb j hj _ rfl
  rw [List.length_drop,Zad] at hfc
  obtain ⟨⟨sy,m,e⟩,hr2⟩:∃ r,r=nxt d ((Zah b).drop j) 15 0 0:=⟨_,rfl⟩
  rw [←hr2] at hfc hsy hN ⊢
  simp only at hfc hsy hN
  clear hr2
  by_cases c2:e=0
  ·subst c2
   have hsy:=hsy rfl
   obtain ⟨q,hq⟩:∃ q,q=j+m:=⟨_,rfl⟩
   have hq8:q≤8*b.length:=by omega
   simp only [ZAv,if_true,BR.bnd]
   rw [←hq] at hN ⊢
   rw [Zav]
   have hD:=ZpF t most nl b hb q hq8 out sy (by omega)
   have hDi:=fun a j (h:(ZsJ sy).run (Zah b) q = .ok a j)=>(Zgc h).2 (by rw [Zad];exact hq8)
   have hD8:=fun a j (h:(ZsJ sy).run (Zah b) q = .ok a j)=>ZF9 h
   obtain ⟨r3,hr3⟩:∃ r,r=(ZsJ sy).run (Zah b) q:=⟨_,rfl⟩
   rw [←hr3] at hD hDi hD8 ⊢
   cases r3 with
   | no e3 =>
    have de:decide ((e3:Int)=0)=false:=decide_eq_false (by have:=hD.1;omega)
    refine ⟨hD.1,HCon.of' mix Tryz.func104 rfl Tryz.ntmps104 ZaX ZaY (by simp) (by simp only [AV.gl.glL,AV.gl,int,and_true];exact ⟨by omega,trivial,Zae 1 _ ZbW⟩) ZeI ?_⟩
    unfold ZaM
    repeat (first | refine zS ?_ | exact zT)
    refine Zag [(1000,0),(1001,0),(1002,0)] 2000 hL (by simp) (by simp) ?_ ?_ ?_
    iterate 2 (case _=>(first | exact yU (ja5 @unI.eq_1 @unR.eq_1 @rdR.eq_1 @Zaa @Zac) | refine yR (ja5 @unI.eq_1 @unR.eq_1 @rdR.eq_1 @Zaa @Zac) ?_))
    repeat (first | refine zR (ja8 @unI.eq_1 @unO.eq_1 @unR.eq_1 @rdR.eq_1 @Zaa @Zac @okI.eq_1 @noI.eq_1) ?_ | exact zU (ja8 @unI.eq_1 @unO.eq_1 @unR.eq_1 @rdR.eq_1 @Zaa @Zac @okI.eq_1 @noI.eq_1))
    refine Zag [(1001,0)] 3000 hN (by simp) (by simp) ?_ ?_ ?_
    iterate 2 (case _=>(first | exact yU (ja2 @rdR.eq_1 @Zac) | refine yR (ja2 @rdR.eq_1 @Zac) ?_))
    repeat (first | refine zR (ja8 @unI.eq_1 @unO.eq_1 @unR.eq_1 @rdR.eq_1 @Zaa @Zac @okI.eq_1 @noI.eq_1) ?_ | exact zU (ja8 @unI.eq_1 @unO.eq_1 @unR.eq_1 @rdR.eq_1 @Zaa @Zac @okI.eq_1 @noI.eq_1))
    refine Zag [(1000,0),(1001,0),(1002,0)] 4000 hD.2 (by simp) (by simp) ?_ ?_ ?_
    iterate 2 (case _=>(first | exact yU (ja5 @unI.eq_1 @unR.eq_1 @rdR.eq_1 @Zaa @Zac) | refine yR (ja5 @unI.eq_1 @unR.eq_1 @rdR.eq_1 @Zaa @Zac) ?_))
    repeat (first | refine zR (ja8 @unI.eq_1 @unO.eq_1 @unR.eq_1 @rdR.eq_1 @Zaa @Zac @okI.eq_1 (ja2 @noI.eq_1 @de)) ?_ | exact zU (ja8 @unI.eq_1 @unO.eq_1 @unR.eq_1 @rdR.eq_1 @Zaa @Zac @okI.eq_1 (ja2 @noI.eq_1 @de)))
   | ok k j2 =>
    have hj2:=hDi k j2 rfl
    have hk:=hD8 k j2 rfl
    rw [Zad] at hj2
    clear hr3 hDi hD8
    simp only [BR.bnd]
    by_cases c3:out.length<k
    ·rw [if_pos c3]
     have d3:decide ((out.length:Int)<(k:Int))=true:=decide_eq_true (by omega)
     refine ⟨by omega,HCon.of' mix Tryz.func104 rfl Tryz.ntmps104 ZaX ZaY (by simp) (by simp only [AV.gl.glL,AV.gl,int,and_true];exact ⟨by omega,trivial,Zae 1 _ ZbW⟩) ZeI ?_⟩
     unfold ZaM
     repeat (first | refine zS ?_ | exact zT)
     refine Zag [(1000,0),(1001,0),(1002,0)] 2000 hL (by simp) (by simp) ?_ ?_ ?_
     iterate 2 (case _=>(first | exact yU (ja5 @unI.eq_1 @unR.eq_1 @rdR.eq_1 @Zaa @Zac) | refine yR (ja5 @unI.eq_1 @unR.eq_1 @rdR.eq_1 @Zaa @Zac) ?_))
     repeat (first | refine zR (ja8 @unI.eq_1 @unO.eq_1 @unR.eq_1 @rdR.eq_1 @Zaa @Zac @okI.eq_1 @noI.eq_1) ?_ | exact zU (ja8 @unI.eq_1 @unO.eq_1 @unR.eq_1 @rdR.eq_1 @Zaa @Zac @okI.eq_1 @noI.eq_1))
     refine Zag [(1001,0)] 3000 hN (by simp) (by simp) ?_ ?_ ?_
     iterate 2 (case _=>(first | exact yU (ja2 @rdR.eq_1 @Zac) | refine yR (ja2 @rdR.eq_1 @Zac) ?_))
     repeat (first | refine zR (ja8 @unI.eq_1 @unO.eq_1 @unR.eq_1 @rdR.eq_1 @Zaa @Zac @okI.eq_1 @noI.eq_1) ?_ | exact zU (ja8 @unI.eq_1 @unO.eq_1 @unR.eq_1 @rdR.eq_1 @Zaa @Zac @okI.eq_1 @noI.eq_1))
     refine Zag [(1000,0),(1001,0),(1002,0)] 4000 hD (by simp) (by simp) ?_ ?_ ?_
     iterate 2 (case _=>(first | exact yU (ja5 @unI.eq_1 @unR.eq_1 @rdR.eq_1 @Zaa @Zac) | refine yR (ja5 @unI.eq_1 @unR.eq_1 @rdR.eq_1 @Zaa @Zac) ?_))
     repeat (first | refine zR (ja8 @unI.eq_1 @unO.eq_1 @unR.eq_1 @rdR.eq_1 @Zaa @Zac @okI.eq_1 (ja2 @noI.eq_1 @d3)) ?_ | exact zU (ja8 @unI.eq_1 @unO.eq_1 @unR.eq_1 @rdR.eq_1 @Zaa @Zac @okI.eq_1 (ja2 @noI.eq_1 @d3)))
    ·rw [if_neg c3]
     have d3:decide ((out.length:Int)<(k:Int))=false:=decide_eq_false (by omega)
     by_cases c4:most<out.length+n
     ·rw [if_pos c4]
      have d4:decide (((most-out.length:Nat):Int)<(n:Int))=true:=decide_eq_true (by omega)
      refine ⟨by omega,HCon.of' mix Tryz.func104 rfl Tryz.ntmps104 ZaX ZaY (by simp) (by simp only [AV.gl.glL,AV.gl,int,and_true];exact ⟨by omega,trivial,Zae 1 _ ZbW⟩) ZeI ?_⟩
      unfold ZaM
      repeat (first | refine zS ?_ | exact zT)
      refine Zag [(1000,0),(1001,0),(1002,0)] 2000 hL (by simp) (by simp) ?_ ?_ ?_
      iterate 2 (case _=>(first | exact yU (ja5 @unI.eq_1 @unR.eq_1 @rdR.eq_1 @Zaa @Zac) | refine yR (ja5 @unI.eq_1 @unR.eq_1 @rdR.eq_1 @Zaa @Zac) ?_))
      repeat (first | refine zR (ja8 @unI.eq_1 @unO.eq_1 @unR.eq_1 @rdR.eq_1 @Zaa @Zac @okI.eq_1 @noI.eq_1) ?_ | exact zU (ja8 @unI.eq_1 @unO.eq_1 @unR.eq_1 @rdR.eq_1 @Zaa @Zac @okI.eq_1 @noI.eq_1))
      refine Zag [(1001,0)] 3000 hN (by simp) (by simp) ?_ ?_ ?_
      iterate 2 (case _=>(first | exact yU (ja2 @rdR.eq_1 @Zac) | refine yR (ja2 @rdR.eq_1 @Zac) ?_))
      repeat (first | refine zR (ja8 @unI.eq_1 @unO.eq_1 @unR.eq_1 @rdR.eq_1 @Zaa @Zac @okI.eq_1 @noI.eq_1) ?_ | exact zU (ja8 @unI.eq_1 @unO.eq_1 @unR.eq_1 @rdR.eq_1 @Zaa @Zac @okI.eq_1 @noI.eq_1))
      refine Zag [(1000,0),(1001,0),(1002,0)] 4000 hD (by simp) (by simp) ?_ ?_ ?_
      iterate 2 (case _=>(first | exact yU (ja5 @unI.eq_1 @unR.eq_1 @rdR.eq_1 @Zaa @Zac) | refine yR (ja5 @unI.eq_1 @unR.eq_1 @rdR.eq_1 @Zaa @Zac) ?_))
      repeat (first | refine zR (ja8 @unI.eq_1 @unO.eq_1 @unR.eq_1 @rdR.eq_1 @Zaa @Zac @okI.eq_1 (ja2 @noI.eq_1 @d3)) ?_ | exact zU (ja8 @unI.eq_1 @unO.eq_1 @unR.eq_1 @rdR.eq_1 @Zaa @Zac @okI.eq_1 (ja2 @noI.eq_1 @d3)))
      refine Zag [(1000,0),(1001,0),(1002,0)] 5000 (ZhB t most hm nl b j2 out ho) (by simp) (by simp) ?_ ?_ ?_
      iterate 2 (case _=>(first | exact yU (ja5 @unI.eq_1 @unR.eq_1 @rdR.eq_1 @Zaa @Zac) | refine yR (ja5 @unI.eq_1 @unR.eq_1 @rdR.eq_1 @Zaa @Zac) ?_))
      repeat (first | refine zR (ja8 @unI.eq_1 @unO.eq_1 @unR.eq_1 @rdR.eq_1 @Zaa @Zac @okI.eq_1 (ja2 @noI.eq_1 @d4)) ?_ | exact zU (ja8 @unI.eq_1 @unO.eq_1 @unR.eq_1 @rdR.eq_1 @Zaa @Zac @okI.eq_1 (ja2 @noI.eq_1 @d4)))
     ·rw [if_neg c4]
      have d4:decide (((most-out.length:Nat):Int)<(n:Int))=false:=decide_eq_false (by omega)
      refine HCon.of' mix Tryz.func104 rfl Tryz.ntmps104 ZaX ZaY (by simp) (by simp only [AV.gl.glL,AV.gl,int,and_true];exact ⟨by omega,trivial,Zae 1 _ ZbW⟩) ZeI ?_
      unfold ZaM
      repeat (first | refine zS ?_ | exact zT)
      refine Zag [(1000,0),(1001,0),(1002,0)] 2000 hL (by simp) (by simp) ?_ ?_ ?_
      iterate 2 (case _=>(first | exact yU (ja5 @unI.eq_1 @unR.eq_1 @rdR.eq_1 @Zaa @Zac) | refine yR (ja5 @unI.eq_1 @unR.eq_1 @rdR.eq_1 @Zaa @Zac) ?_))
      repeat (first | refine zR (ja8 @unI.eq_1 @unO.eq_1 @unR.eq_1 @rdR.eq_1 @Zaa @Zac @okI.eq_1 @noI.eq_1) ?_ | exact zU (ja8 @unI.eq_1 @unO.eq_1 @unR.eq_1 @rdR.eq_1 @Zaa @Zac @okI.eq_1 @noI.eq_1))
      refine Zag [(1001,0)] 3000 hN (by simp) (by simp) ?_ ?_ ?_
      iterate 2 (case _=>(first | exact yU (ja2 @rdR.eq_1 @Zac) | refine yR (ja2 @rdR.eq_1 @Zac) ?_))
      repeat (first | refine zR (ja8 @unI.eq_1 @unO.eq_1 @unR.eq_1 @rdR.eq_1 @Zaa @Zac @okI.eq_1 @noI.eq_1) ?_ | exact zU (ja8 @unI.eq_1 @unO.eq_1 @unR.eq_1 @rdR.eq_1 @Zaa @Zac @okI.eq_1 @noI.eq_1))
      refine Zag [(1000,0),(1001,0),(1002,0)] 4000 hD (by simp) (by simp) ?_ ?_ ?_
      iterate 2 (case _=>(first | exact yU (ja5 @unI.eq_1 @unR.eq_1 @rdR.eq_1 @Zaa @Zac) | refine yR (ja5 @unI.eq_1 @unR.eq_1 @rdR.eq_1 @Zaa @Zac) ?_))
      repeat (first | refine zR (ja8 @unI.eq_1 @unO.eq_1 @unR.eq_1 @rdR.eq_1 @Zaa @Zac @okI.eq_1 (ja2 @noI.eq_1 @d3)) ?_ | exact zU (ja8 @unI.eq_1 @unO.eq_1 @unR.eq_1 @rdR.eq_1 @Zaa @Zac @okI.eq_1 (ja2 @noI.eq_1 @d3)))
      refine Zag [(1000,0),(1001,0),(1002,0)] 5000 (ZhB t most hm nl b j2 out ho) (by simp) (by simp) ?_ ?_ ?_
      iterate 2 (case _=>(first | exact yU (ja5 @unI.eq_1 @unR.eq_1 @rdR.eq_1 @Zaa @Zac) | refine yR (ja5 @unI.eq_1 @unR.eq_1 @rdR.eq_1 @Zaa @Zac) ?_))
      repeat (first | refine zR (ja8 @unI.eq_1 @unO.eq_1 @unR.eq_1 @rdR.eq_1 @Zaa @Zac @okI.eq_1 (ja2 @noI.eq_1 @d4)) ?_ | exact zU (ja8 @unI.eq_1 @unO.eq_1 @unR.eq_1 @rdR.eq_1 @Zaa @Zac @okI.eq_1 (ja2 @noI.eq_1 @d4)))
      refine SWp.loop (α:=Nat × Nat) (fun x=>mk 77 (202+x.1) [(0,.op 1000 0 0),(9,int (k:Int)),(51,int (n:Int)),(52,int (x.1:Int))] [(1000,0,.row false (unR t most x.2 (out.length+x.1))),(1001,0,.row false (rdR nl b j2)),(1002,x.2,.row (nl0 (out.length+x.1)) ((cpy out k x.1).map u8))])
       (fun x=>x.1≤n) (fun x=>n-x.1) (0,0) (Nat.zero_le _) (Zau rfl ?_ ?_ ?_) ?_
      ·exact Nat.le_refl _
      iterate 2 (case _=>(first | exact yU (ja4 @unR.eq_1 @rdR.eq_1 @cpy.eq_1 @cpy.eq_2) | refine yR (ja4 @unR.eq_1 @rdR.eq_1 @cpy.eq_1 @cpy.eq_2) ?_))
      rintro ⟨x,g⟩ hx -
      simp only at hx
      have hcl:=ZmA (k:=k) (n:=x) (out:=out)
      have hcs:=Zrh (k:=k) (n:=x) (out:=out)
      obtain ⟨c,hc⟩:∃ c,c=cpy out k x:=⟨_,rfl⟩
      rw [←hc] at hcl hcs ⊢
      rw [hcl] at hcs
      repeat (first | refine zS ?_ | exact zT)
      refine SWp.cond rfl (fun h=>?_) (fun h=>?_)
      ·simp only [decide_eq_true_eq] at h
       obtain ⟨z,hz⟩:∃ z,z=out.length+x-k:=⟨_,rfl⟩
       have ez:(out.length:Int)+(x:Int)-(k:Int)=(z:Int):=by omega
       rw [←hz] at hcs
       obtain ⟨v,hv⟩:∃ v,v=c.getD z 0:=⟨_,rfl⟩
       rw [←hv] at hcs
       have hn0:nl0 (out.length+(x+1))=false:=Zcg (by omega)
       repeat (first | refine zR (ja5 @unR.eq_1 @hcl @ez hv.symm @ZhA) ?_ | exact zU (ja5 @unR.eq_1 @hcl @ez hv.symm @ZhA))
       refine At.of (x+1,202+x) (by simp only;omega) (by simp only;omega) rfl rfl ?_ ?_ ?_
       ·simp only;omega
       iterate 2 (case _=>(first | exact yU (ja4 @unR.eq_1 @hcs @hn0 @Nat.add_assoc) | refine yR (ja4 @unR.eq_1 @hcs @hn0 @Nat.add_assoc) ?_))
      ·simp only [decide_eq_false_iff_not] at h
       obtain rfl:x=n:=by omega
       refine SWp.le (Zau (N:=77) (gc:=500) (l:=[]) (h:=[(1000,0,.row false (unR t most g (out.length+x))),(1001,0,.row false (rdR nl b j2)),(1002,g,.row (nl0 (out.length+x)) (c.map u8))]) rfl ?_ ?_ ?_) ?_
       ·simp only;omega
       iterate 2 (case _=>(first | exact yT | refine yS ?_))
       refine SWp.renew 1002 g (o:=.row (nl0 (out.length+x)) (c.map u8)) (by (first | exact yT | refine yS ?_)) ?_
       refine SWp.le (Zau (N:=77) (gc:=501) (l:=[]) (h:=[(1000,0,.row false (unR t most 500 (out.length+x))),(1001,0,.row false (rdR nl b j2)),(1002,500,.row (nl0 (out.length+x)) (c.map u8))]) rfl ?_ ?_ ?_) ?_
       ·exact Nat.le_refl _
       iterate 2 (case _=>(first | exact yU (ja5 @Zbm @Zbn @unR.eq_1 @rdR.eq_1 @Zaa) | refine yR (ja5 @Zbm @Zbn @unR.eq_1 @rdR.eq_1 @Zaa) ?_))
       repeat (first | refine zR (ja5 @unO.eq_1 @unR.eq_1 @rdR.eq_1 @hcl hc.symm) ?_ | exact zU (ja5 @unO.eq_1 @unR.eq_1 @rdR.eq_1 @hcl hc.symm))
  ·simp only [ZAv,if_neg c2,BR.bnd]
   have he:e≠0∧e≤10:=by omega
   have de:decide ((e:Int)=0)=false:=decide_eq_false (by omega)
   refine ⟨he,HCon.of' mix Tryz.func104 rfl Tryz.ntmps104 ZaX ZaY (by simp) (by simp only [AV.gl.glL,AV.gl,int,and_true];exact ⟨by omega,trivial,Zae 1 _ ZbW⟩) ZeI ?_⟩
   unfold ZaM
   repeat (first | refine zS ?_ | exact zT)
   refine Zag [(1000,0),(1001,0),(1002,0)] 2000 hL (by simp) (by simp) ?_ ?_ ?_
   iterate 2 (case _=>(first | exact yU (ja5 @unI.eq_1 @unR.eq_1 @rdR.eq_1 @Zaa @Zac) | refine yR (ja5 @unI.eq_1 @unR.eq_1 @rdR.eq_1 @Zaa @Zac) ?_))
   repeat (first | refine zR (ja8 @unI.eq_1 @unO.eq_1 @unR.eq_1 @rdR.eq_1 @Zaa @Zac @okI.eq_1 @noI.eq_1) ?_ | exact zU (ja8 @unI.eq_1 @unO.eq_1 @unR.eq_1 @rdR.eq_1 @Zaa @Zac @okI.eq_1 @noI.eq_1))
   refine Zag [(1001,0)] 3000 hN (by simp) (by simp) ?_ ?_ ?_
   iterate 2 (case _=>(first | exact yU (ja2 @rdR.eq_1 @Zac) | refine yR (ja2 @rdR.eq_1 @Zac) ?_))
   repeat (first | refine zR (ja8 @unI.eq_1 @unO.eq_1 @unR.eq_1 @rdR.eq_1 @Zaa @Zac @okI.eq_1 (ja2 @noI.eq_1 @de)) ?_ | exact zU (ja8 @unI.eq_1 @unO.eq_1 @unR.eq_1 @rdR.eq_1 @Zaa @Zac @okI.eq_1 (ja2 @noI.eq_1 @de)))
def Zco {α:Type}:BR α→AV
 | .ok _ _=>int 0
 | .no e=>int (e:Int)
def Zcp (K:Nat) (t:Bool) (most:Nat) (nl:Bool) (b:List UInt8):BR (List UInt8)→List (Nat × Nat × AO)
 | .ok o j=>unO K t most nl b j o
 | .no _=>[]
set_option maxHeartbeats 1000000 in
set_option maxRecDepth 100000 in
theorem ZlK [Tabs Tryz.prog] (t:Bool) (most:Nat) (hm:most≤16777216) (nl:Bool) (b:List UInt8) (hb:b.length≤1000000) (i:Nat) (hi:i≤8*b.length) (out:List UInt8) (ho:out.length≤most)
  (l d:List Nat) (hl:l.length≤320) (hKl:ZaA l≤32768) (hd:d.length≤320) (hK:ZaA d≤32768) (F:Nat) (hF:8*b.length-i<F) (r:BR (List UInt8)) (hr:(ZuJ l d most F out).run (Zah b) i=r) :
  HCon Tryz.prog ZbR [.op 1000 0 0,cds l d] (unI t most nl b i out) (Zco r) (Zcp (1000*F+1) t most nl b r) (1000*F+2):=by
 refine HCon.of' mix Tryz.func58 rfl Tryz.ntmps58 Zgf Zgg (by simp) (by simp only [AV.gl.glL,AV.gl,and_true];exact ⟨by omega,Zcr 1 _ ZlJ⟩) ZeI ?_
 unfold ZcY
 repeat (first | refine zS ?_ | exact zT)
 refine SWp.loop (α:=Nat × List UInt8 × Nat × Nat × Nat) (fun x=>mk 45 x.2.2.2.2 [(0,.op 1000 0 0),(1,cds l d)] [(1000,0,.row false (unR t most x.2.2.2.1 x.2.1.length)),(1001,0,.row false (rdR nl b x.2.2.1)),(1002,x.2.2.2.1,.row (nl0 x.2.1.length) (x.2.1.map u8))])
  (fun x=>(ZuJ l d most x.1 x.2.1).run (Zah b) x.2.2.1=r∧x.2.2.1≤8*b.length∧8*b.length-x.2.2.1<x.1∧x.2.1.length≤most∧x.2.2.2.2+1000*x.1≤1000*F+1) (fun x=>x.1) (F,out,i,0,1) ⟨hr,hi,hF,ho,by simp only;omega⟩ (Zau rfl ?_ ?_ ?_) ?_
 ·exact Nat.le_refl _
 iterate 2 (case _=>(first | exact yU @unI.eq_1 | refine yR @unI.eq_1 ?_))
 rintro ⟨f,o,p,g,c⟩ ⟨hx,hp,hf,hom,hc⟩ -
 simp only at hx hp hf hom hc
 obtain ⟨f,rfl⟩:∃ f',f=f'+1:=⟨f-1,by omega⟩
 rw [ZuJ,Zav,ZoJ] at hx
 have hfc:=ZlI (l:=l) (B:=(Zah b).drop p) 15 0 0 (Nat.zero_le _)
 have hsy:=ZoL (l:=l) (B:=(Zah b).drop p) 15 0 0
 have hN:=ZkM l hl hKl nl b hb p hp _ rfl
 rw [List.length_drop,Zad] at hfc
 obtain ⟨⟨sy,m,e⟩,hr2⟩:∃ r,r=nxt l ((Zah b).drop p) 15 0 0:=⟨_,rfl⟩
 rw [←hr2] at hfc hsy hN hx
 simp only at hfc hsy hN
 clear hr2 hr
 by_cases c2:e=0
 ·subst c2
  have hsy:=hsy rfl
  obtain ⟨q,hq⟩:∃ q,q=p+m:=⟨_,rfl⟩
  have hq8:q≤8*b.length:=by omega
  simp only [ZAv,if_true,BR.bnd] at hx
  rw [←hq] at hN hx
  by_cases c3:sy<256
  ·rw [if_pos c3] at hx
   have d3:decide ((sy:Int)<256)=true:=decide_eq_true (by omega)
   obtain ⟨v,rfl⟩:∃ v:UInt8,sy=v.toNat:=⟨UInt8.ofNat sy,by rw [UInt8.toNat_ofNat',Nat.mod_eq_of_lt (by omega)]⟩
   rw [UInt8.ofNat_toNat] at hx
   have hv:=v.toNat_lt
   by_cases c4:most≤o.length
   ·rw [if_pos c4] at hx
    simp only [BT.run] at hx
    subst hx
    have hL:=ZpE t most hm nl b q o hom v c4
    repeat (first | refine zR (ja2 @cds.eq_1 @unR.eq_1) ?_ | exact zU (ja2 @cds.eq_1 @unR.eq_1))
    refine Zag [(1001,0)] 2000 hN (by simp) (by simp) ?_ ?_ ?_
    iterate 2 (case _=>(first | exact yU (ja2 @rdR.eq_1 @Zac) | refine yR (ja2 @rdR.eq_1 @Zac) ?_))
    repeat (first | refine zR (ja3 @unR.eq_1 @rdR.eq_1 @d3) ?_ | exact zU (ja3 @unR.eq_1 @rdR.eq_1 @d3))
    refine Zag [(1000,0),(1001,0),(1002,g)] 3000 hL (by simp) (by simp) ?_ ?_ ?_
    iterate 2 (case _=>(first | exact yU (ja4 @unI.eq_1 @unR.eq_1 @rdR.eq_1 @Zaa) | refine yR (ja4 @unI.eq_1 @unR.eq_1 @rdR.eq_1 @Zaa) ?_))
    repeat (first | refine zR (ja4 @Zco.eq_1 @Zco.eq_2 @Zcp.eq_1 @Zcp.eq_2) ?_ | exact zU (ja4 @Zco.eq_1 @Zco.eq_2 @Zcp.eq_1 @Zcp.eq_2))
    omega
   ·rw [if_neg c4] at hx
    have hL:=Zri t most hm nl b q o (by omega) v
    repeat (first | refine zR (ja2 @cds.eq_1 @unR.eq_1) ?_ | exact zU (ja2 @cds.eq_1 @unR.eq_1))
    refine Zag [(1001,0)] 2000 hN (by simp) (by simp) ?_ ?_ ?_
    iterate 2 (case _=>(first | exact yU (ja2 @rdR.eq_1 @Zac) | refine yR (ja2 @rdR.eq_1 @Zac) ?_))
    repeat (first | refine zR (ja3 @unR.eq_1 @rdR.eq_1 @d3) ?_ | exact zU (ja3 @unR.eq_1 @rdR.eq_1 @d3))
    refine Zag [(1000,0),(1001,0),(1002,g)] 3000 hL (by simp) (by simp) ?_ ?_ ?_
    iterate 2 (case _=>(first | exact yU (ja4 @unI.eq_1 @unR.eq_1 @rdR.eq_1 @Zaa) | refine yR (ja4 @unI.eq_1 @unR.eq_1 @rdR.eq_1 @Zaa) ?_))
    repeat (first | refine zR (ja4 @unO.eq_1 @unR.eq_1 @rdR.eq_1 @Zaa) ?_ | exact zU (ja4 @unO.eq_1 @unR.eq_1 @rdR.eq_1 @Zaa))
    refine At.of (f,o++[v],q,c+100+2,c+110) ⟨hx,hq8,by simp only;omega,by simp only [List.length_append,List.length_singleton];omega,by simp only;omega⟩ (by simp only;omega) rfl rfl ?_ ?_ ?_
    ·simp only;omega
    iterate 2 (case _=>(first | exact yU (ja4 @cds.eq_1 @unR.eq_1 @rdR.eq_1 @Zgn) | refine yR (ja4 @cds.eq_1 @unR.eq_1 @rdR.eq_1 @Zgn) ?_))
  ·rw [if_neg c3] at hx
   have d3:decide ((sy:Int)<256)=false:=decide_eq_false (by omega)
   by_cases c4:sy=256
   ·rw [if_pos c4] at hx
    simp only [BT.run] at hx
    subst hx c4
    repeat (first | refine zR (ja2 @cds.eq_1 @unR.eq_1) ?_ | exact zU (ja2 @cds.eq_1 @unR.eq_1))
    refine Zag [(1001,0)] 2000 hN (by simp) (by simp) ?_ ?_ ?_
    iterate 2 (case _=>(first | exact yU (ja2 @rdR.eq_1 @Zac) | refine yR (ja2 @rdR.eq_1 @Zac) ?_))
    iterate 1 (first | refine zR (ja2 @unR.eq_1 @rdR.eq_1) ?_ | exact zU (ja2 @unR.eq_1 @rdR.eq_1))
    refine SWp.le (Zau (N:=45) (gc:=1000*F+1) (l:=[(0,.op 1000 0 0),(5,int 256),(6,int 0)]) (h:=[(1000,0,.row false (unR t most g o.length)),(1001,0,.row false (rdR nl b q)),(1002,g,.row (nl0 o.length) (o.map u8))]) rfl ?_ ?_ ?_) ?_
    ·simp only;omega
    iterate 2 (case _=>(first | exact yU (ja2 @unR.eq_1 @rdR.eq_1) | refine yR (ja2 @unR.eq_1 @rdR.eq_1) ?_))
    refine SWp.renew 1002 g (o:=.row (nl0 o.length) (o.map u8)) (by (first | exact yT | refine yS ?_)) ?_
    refine SWp.le (Zau (N:=45) (gc:=1000*F+2) (l:=[(0,.op 1000 0 0),(5,int 256),(6,int 0)]) (h:=[(1000,0,.row false (unR t most (1000*F+1) o.length)),(1001,0,.row false (rdR nl b q)),(1002,1000*F+1,.row (nl0 o.length) (o.map u8))]) rfl ?_ ?_ ?_) ?_
    ·exact Nat.le_refl _
    iterate 2 (case _=>(first | exact yU (ja5 @Zbm @Zbn @unR.eq_1 @rdR.eq_1 @Zaa) | refine yR (ja5 @Zbm @Zbn @unR.eq_1 @rdR.eq_1 @Zaa) ?_))
    repeat (first | refine zR (ja7 @Zco.eq_1 @Zco.eq_2 @Zcp.eq_1 @Zcp.eq_2 @unO.eq_1 @unR.eq_1 @rdR.eq_1) ?_ | exact zU (ja7 @Zco.eq_1 @Zco.eq_2 @Zcp.eq_1 @Zcp.eq_2 @unO.eq_1 @unR.eq_1 @rdR.eq_1))
   ·rw [if_neg c4] at hx
    have d4:decide ((sy:Int)=256)=false:=decide_eq_false (by omega)
    have es:(sy:Int)-256-1=((sy-257:Nat):Int):=by omega
    rw [Zav] at hx
    have hR:=ZAF t most hm nl b hb q hq8 o hom (sy-257) (by omega) d hd hK
    obtain ⟨z,hz⟩:∃ z,z=sy-257:=⟨_,rfl⟩
    rw [←hz] at hR hx es
    have hRi:=fun a j (h:(ZyF most d o z).run (Zah b) q = .ok a j)=>Zgc h
    have hRm:=fun a j (h:(ZyF most d o z).run (Zah b) q = .ok a j)=>ZAE h
    rw [Zad] at hRi
    obtain ⟨r3,hr3⟩:∃ r,r=(ZyF most d o z).run (Zah b) q:=⟨_,rfl⟩
    rw [←hr3] at hR hRi hRm hx
    cases r3 with
    | no e3 =>
     simp only [BR.bnd] at hx
     subst hx
     have de:decide ((e3:Int)=0)=false:=decide_eq_false (by have:=hR.1;omega)
     repeat (first | refine zR (ja2 @cds.eq_1 @unR.eq_1) ?_ | exact zU (ja2 @cds.eq_1 @unR.eq_1))
     refine Zag [(1001,0)] 2000 hN (by simp) (by simp) ?_ ?_ ?_
     iterate 2 (case _=>(first | exact yU (ja2 @rdR.eq_1 @Zac) | refine yR (ja2 @rdR.eq_1 @Zac) ?_))
     repeat (first | refine zR (ja5 @unR.eq_1 @rdR.eq_1 @d3 @d4 @es) ?_ | exact zU (ja5 @unR.eq_1 @rdR.eq_1 @d3 @d4 @es))
     refine Zag [(1000,0),(1001,0),(1002,g)] 3000 hR.2 (by simp) (by simp) ?_ ?_ ?_
     iterate 2 (case _=>(first | exact yU (ja5 @unI.eq_1 @unR.eq_1 @rdR.eq_1 @Zaa @Zac) | refine yR (ja5 @unI.eq_1 @unR.eq_1 @rdR.eq_1 @Zaa @Zac) ?_))
     repeat (first | refine zR (ja5 @Zco.eq_1 @Zco.eq_2 @Zcp.eq_1 @Zcp.eq_2 @de) ?_ | exact zU (ja5 @Zco.eq_1 @Zco.eq_2 @Zcp.eq_1 @Zcp.eq_2 @de))
     omega
    | ok o2 j =>
     have hj:=hRi o2 j rfl
     have hm2:=hRm o2 j rfl
     simp only [BR.bnd] at hx
     repeat (first | refine zR (ja2 @cds.eq_1 @unR.eq_1) ?_ | exact zU (ja2 @cds.eq_1 @unR.eq_1))
     refine Zag [(1001,0)] 2000 hN (by simp) (by simp) ?_ ?_ ?_
     iterate 2 (case _=>(first | exact yU (ja2 @rdR.eq_1 @Zac) | refine yR (ja2 @rdR.eq_1 @Zac) ?_))
     repeat (first | refine zR (ja5 @unR.eq_1 @rdR.eq_1 @d3 @d4 @es) ?_ | exact zU (ja5 @unR.eq_1 @rdR.eq_1 @d3 @d4 @es))
     refine Zag [(1000,0),(1001,0),(1002,g)] 3000 hR (by simp) (by simp) ?_ ?_ ?_
     iterate 2 (case _=>(first | exact yU (ja5 @unI.eq_1 @unR.eq_1 @rdR.eq_1 @Zaa @Zac) | refine yR (ja5 @unI.eq_1 @unR.eq_1 @rdR.eq_1 @Zaa @Zac) ?_))
     repeat (first | refine zR (ja4 @unO.eq_1 @unR.eq_1 @rdR.eq_1 @Zaa) ?_ | exact zU (ja4 @unO.eq_1 @unR.eq_1 @rdR.eq_1 @Zaa))
     refine At.of (f,o2,j,c+100+500,c+700) ⟨hx,hj.2 hq8,by simp only;omega,hm2,by simp only;omega⟩ (by simp only;omega) rfl rfl ?_ ?_ ?_
     ·simp only;omega
     iterate 2 (case _=>(first | exact yU (ja3 @cds.eq_1 @unR.eq_1 @rdR.eq_1) | refine yR (ja3 @cds.eq_1 @unR.eq_1 @rdR.eq_1) ?_))
 ·simp only [ZAv,if_neg c2,BR.bnd] at hx
  have de:decide ((e:Int)=0)=false:=decide_eq_false (by omega)
  subst hx
  repeat (first | refine zR (ja2 @cds.eq_1 @unR.eq_1) ?_ | exact zU (ja2 @cds.eq_1 @unR.eq_1))
  refine Zag [(1001,0)] 2000 hN (by simp) (by simp) ?_ ?_ ?_
  iterate 2 (case _=>(first | exact yU (ja2 @rdR.eq_1 @Zac) | refine yR (ja2 @rdR.eq_1 @Zac) ?_))
  repeat (first | refine zR (ja5 @Zco.eq_1 @Zco.eq_2 @Zcp.eq_1 @Zcp.eq_2 @de) ?_ | exact zU (ja5 @Zco.eq_1 @Zco.eq_2 @Zcp.eq_1 @Zcp.eq_2 @de))
  omega
set_option maxHeartbeats 1000000 in
set_option maxRecDepth 100000 in
theorem Zm9 [Tabs Tryz.prog] (t:Bool) (most:Nat) (hm:most≤16777216) (nl:Bool) (b:List UInt8) (hb:b.length≤1000000) (hnl:nl=true→b=[]) (i:Nat) (hi:i≤8*b.length) (out:List UInt8) (ho:out.length≤most) (r:BR (List UInt8)) (hr:(ZAw most out).run (Zah b) i=r) :
  HCon Tryz.prog Zda [.op 1000 0 0] (unI t most nl b i out) (Zco r) (Zcp 73 t most nl b r) 80:=by
 refine HCon.of' mix Tryz.func56 rfl Tryz.ntmps56 ZgU ZgV (by simp) (by simp [AV.gl,AV.gl.glL]) ZeI ?_
 unfold Zdc
 rw [ZDB hi] at hr
 obtain ⟨q,hq⟩:∃ q,q=(i+7) / 8:=⟨_,rfl⟩
 rw [←hq] at hr
 have hAl:=Zjc nl b hb i hi
 rw [←hq] at hAl
 repeat (first | refine zR (ja2 @unI.eq_1 @unR.eq_1) ?_ | exact zU (ja2 @unI.eq_1 @unR.eq_1))
 refine Zag [(1001,0)] 2000 hAl (by simp) (by simp) ?_ ?_ ?_
 iterate 2 (case _=>(first | exact yU @rdR.eq_1 | refine yR @rdR.eq_1 ?_))
 by_cases c1:8*b.length<q*8+16
 ·rw [if_pos c1] at hr
  subst hr
  have hT:=ZdG nl b hb (q*8) (by omega) 16 (decide_eq_false (by omega))
  repeat (first | refine zR (ja2 @rdR.eq_1 @unR.eq_1) ?_ | exact zU (ja2 @rdR.eq_1 @unR.eq_1))
  refine Zag [(1001,0)] 3000 hT (by simp) (by simp) ?_ ?_ ?_
  iterate 2 (case _=>(first | exact yU @rdR.eq_1 | refine yR @rdR.eq_1 ?_))
  repeat (first | refine zR (ja4 @Zco.eq_1 @Zco.eq_2 @Zcp.eq_1 @Zcp.eq_2) ?_ | exact zU (ja4 @Zco.eq_1 @Zco.eq_2 @Zcp.eq_1 @Zcp.eq_2))
 ·rw [if_neg c1] at hr
  have hT:=Zdw nl b hb (q*8) (by omega) 16 (by omega) (by omega)
  have hx1:=Zjx (b:=b) (i:=q*8) (n:=16)
  obtain ⟨x,hx⟩:∃ x,x=Zb6 b (q*8) 16:=⟨_,rfl⟩
  rw [←hx] at hT hr hx1
  repeat (first | refine zR (ja2 @rdR.eq_1 @unR.eq_1) ?_ | exact zU (ja2 @rdR.eq_1 @unR.eq_1))
  refine Zag [(1001,0)] 3000 hT (by simp) (by simp) ?_ ?_ ?_
  iterate 2 (case _=>(first | exact yU @rdR.eq_1 | refine yR @rdR.eq_1 ?_))
  by_cases c2:8*b.length<q*8+32
  ·rw [if_pos c2] at hr
   subst hr
   have hT:=ZdG nl b hb (q*8+16) (by omega) 16 (decide_eq_false (by omega))
   repeat (first | refine zR (ja2 @rdR.eq_1 @unR.eq_1) ?_ | exact zU (ja2 @rdR.eq_1 @unR.eq_1))
   refine Zag [(1001,0)] 4000 hT (by simp) (by simp) ?_ ?_ ?_
   iterate 2 (case _=>(first | exact yU @rdR.eq_1 | refine yR @rdR.eq_1 ?_))
   repeat (first | refine zR (ja4 @Zco.eq_1 @Zco.eq_2 @Zcp.eq_1 @Zcp.eq_2) ?_ | exact zU (ja4 @Zco.eq_1 @Zco.eq_2 @Zcp.eq_1 @Zcp.eq_2))
  ·rw [if_neg c2] at hr
   have hT:=Zdw nl b hb (q*8+16) (by omega) 16 (by omega) (by omega)
   have hy1:=Zjx (b:=b) (i:=q*8+16) (n:=16)
   obtain ⟨y,hy⟩:∃ y,y=Zb6 b (q*8+16) 16:=⟨_,rfl⟩
   rw [←hy] at hT hr hy1
   repeat (first | refine zR (ja2 @rdR.eq_1 @unR.eq_1) ?_ | exact zU (ja2 @rdR.eq_1 @unR.eq_1))
   refine Zag [(1001,0)] 4000 hT (by simp) (by simp) ?_ ?_ ?_
   iterate 2 (case _=>(first | exact yU @rdR.eq_1 | refine yR @rdR.eq_1 ?_))
   by_cases c3:x+y≠65535
   ·rw [if_pos c3] at hr
    subst hr
    have d3:decide ((x:Int)+(y:Int)=65535)=false:=decide_eq_false (by omega)
    repeat (first | refine zR (ja5 @Zco.eq_1 @Zco.eq_2 @Zcp.eq_1 @Zcp.eq_2 @d3) ?_ | exact zU (ja5 @Zco.eq_1 @Zco.eq_2 @Zcp.eq_1 @Zcp.eq_2 @d3))
   ·rw [if_neg c3] at hr
    have d3:decide ((x:Int)+(y:Int)=65535)=true:=decide_eq_true (by omega)
    have ej:q+4=(q*8+16+16+7) / 8:=by omega
    by_cases c4:b.length<q+4+x
    ·rw [if_pos c4] at hr
     subst hr
     have hB:=Zq9 nl b hb (q*8+16+16) (by omega) (x:Int) (decide_eq_false (by omega))
     repeat (first | refine zR (ja3 @d3 @rdR.eq_1 @unR.eq_1) ?_ | exact zU (ja3 @d3 @rdR.eq_1 @unR.eq_1))
     refine Zag [(1001,0)] 5000 hB (by simp) (by simp) ?_ ?_ ?_
     iterate 2 (case _=>(first | exact yU @rdR.eq_1 | refine yR @rdR.eq_1 ?_))
     repeat (first | refine zR (ja4 @Zco.eq_1 @Zco.eq_2 @Zcp.eq_1 @Zcp.eq_2) ?_ | exact zU (ja4 @Zco.eq_1 @Zco.eq_2 @Zcp.eq_1 @Zcp.eq_2))
    ·rw [if_neg c4] at hr
     have hB:=ZsE nl b hb hnl (q*8+16+16) (by omega) (q+4) ej x (by omega)
     have hlen:((b.drop (q+4)).take x).length=x:=by rw [List.length_take,List.length_drop];omega
     obtain ⟨z,hz⟩:∃ z,z=(b.drop (q+4)).take x:=⟨_,rfl⟩
     rw [←hz] at hB hr hlen
     have hRo:=ZhB t most hm nl b (8*(q+4+x)) out ho
     repeat (first | refine zR (ja3 @d3 @rdR.eq_1 @unR.eq_1) ?_ | exact zU (ja3 @d3 @rdR.eq_1 @unR.eq_1))
     refine Zag [(1001,0)] 5000 hB (by simp) (by simp) ?_ ?_ ?_
     iterate 2 (case _=>(first | exact yU @rdR.eq_1 | refine yR @rdR.eq_1 ?_))
     repeat (first | refine zR (ja2 @rdR.eq_1 @unR.eq_1) ?_ | exact zU (ja2 @rdR.eq_1 @unR.eq_1))
     refine Zag [(1000,0),(1001,0),(1002,0)] 6000 hRo (by simp) (by simp) ?_ ?_ ?_
     iterate 2 (case _=>(first | exact yU (ja4 @unI.eq_1 @unR.eq_1 @rdR.eq_1 @Zaa) | refine yR (ja4 @unI.eq_1 @unR.eq_1 @rdR.eq_1 @Zaa) ?_))
     by_cases c5:most<out.length+x
     ·rw [if_pos c5] at hr
      subst hr
      have d5:decide (((most-out.length:Nat):Int)<(x:Int))=true:=decide_eq_true (by omega)
      repeat (first | refine zR (ja5 @Zco.eq_1 @Zco.eq_2 @Zcp.eq_1 @Zcp.eq_2 @d5) ?_ | exact zU (ja5 @Zco.eq_1 @Zco.eq_2 @Zcp.eq_1 @Zcp.eq_2 @d5))
     ·rw [if_neg c5] at hr
      subst hr
      have d5:decide (((most-out.length:Nat):Int)<(x:Int))=false:=decide_eq_false (by omega)
      have hn0:nl0 (out.length+x)=(nl0 out.length&&(z.map u8).isEmpty):=by
       cases out with
       | nil=>cases z with
           | nil=>simp at hlen;subst hlen;rfl
           | cons a z=>simp at hlen;rw [←hlen];rfl
       | cons a out=>simp only [List.length_cons];rw [Zcg (by omega),Zcg (by omega)];rfl
      repeat (first | refine zR (ja8 @Zco.eq_1 @Zco.eq_2 @Zcp.eq_1 @Zcp.eq_2 @d5 @unO.eq_1 @unR.eq_1 (ja5 @rdR.eq_1 @Zaa @ZhA @hlen @hn0)) ?_ | exact zU (ja8 @Zco.eq_1 @Zco.eq_2 @Zcp.eq_1 @Zcp.eq_2 @d5 @unO.eq_1 @unR.eq_1 (ja5 @rdR.eq_1 @Zaa @ZhA @hlen @hn0)))
set_option maxRecDepth 100000 in
theorem Zna [Tabs Tryz.prog] (n:Nat) (h0:0<n) (hn:n≤1000000):HCon Tryz.prog ZfV [.sc (.slice none 0 0),int n] [] (.own 22 1 none 0 0) [(22,1,.row false [])] 2:=by
 refine HCon.of' mix Tryz.func125 rfl Tryz.ntmps125 Zkw Zkx (by simp) (by simp [AV.gl,AV.gl.glL,int]) (by simp) ?_
 unfold Zf1
 have d1:decide ((n:Int)<0)=false:=decide_eq_false (by omega)
 have d2:decide ((n:Int)>0)=true:=decide_eq_true (by omega)
 have d3:(n==0)=false:=by simp;omega
 iterate 16 (first | refine zR (ja3 @d1 @d2 @d3) ?_ | exact zU (ja3 @d1 @d2 @d3))
 refine SWp.cut 22 0 (g:=1) (nl:=false) (cells:=(List.replicate n [AV.sc (.int .i64 0)]).flatten) (by (first | exact yT | refine yS ?_)) ?_
 repeat (first | refine zS ?_ | exact zT)
set_option maxRecDepth 100000 in
theorem ZsL [Tabs Tryz.prog] (nl:Bool) (li:List Int) (hc:chk li=0) (l:List Nat) (hli:l=li.map Int.toNat):HCon Tryz.prog Zi1 [.sl nl none (li.map int)] [] (.tup [.own 18 2 none 0 l.length,int 0]) [(18,2,.row false ((ZbM l).map nA))] 3:=by
 obtain ⟨hlen,ha,hK⟩:=ZAr hc
 obtain ⟨hm,h15⟩:=ZvC ha
 rw [←hli] at hm h15 hK
 have hl:l.length≤320:=by rw [hli,List.length_map];exact hlen
 have hchk:=Zjf nl li (by omega)
 rw [hm,hc] at hchk
 rw [hm]
 clear hm ha hc
 refine HCon.of' mix Tryz.func124 rfl Tryz.ntmps124 Zsu Zsv (by simp) (by simp only [AV.gl.glL,AV.gl,and_true];exact Zae _ _ Zab) (by simp) ?_
 unfold Zm5
 have hf:AV.free.freeL [.sl nl none (l.map nA)]=true:=by simp only [AV.free,AV.free.freeL,Zab,Bool.and_self]
 obtain ⟨Z,hZ⟩:∃ Z,Z=r16 fun _=>0:=⟨_,rfl⟩
 have hZl:Z.length=16:=by rw [hZ,Zaz]
 have hz:(List.replicate 16 (Value.int .i64 0)).map AV.sc=Z.map nA:=by rw [hZ];rfl
 have hZd:Z.drop 16=[]:=List.drop_of_length_le (by omega)
 have hfr:=ZiE nl l hl h15
 have hF0:r16 (fr l)=r16 (nxK l 0):=ZlH fun i _=>by
  unfold nxK
  by_cases e:i=0
  ·subst e;rfl
  ·rw [if_neg e];simp
 obtain ⟨F,hF⟩:∃ F,F=r16 (fr l):=⟨_,rfl⟩
 have hFl:F.length=16:=by rw [hF,Zaz]
 rw [←hF] at hfr
 repeat (first | refine zS ?_ | exact zT)
 refine Zay _ (.inl ⟨hf,hchk⟩) ?_
 repeat (first | refine zS ?_ | exact zT)
 refine Zay _ (.inl ⟨hf,hfr⟩) ?_
 repeat (first | refine zR (ja5 iR @hz @hFl @hZd @ZsI) ?_ | exact zU (ja5 iR @hz @hFl @hZd @ZsI))
 have hcz:List.replicate l.length 0=Zes l 0:=ZuG.symm
 refine SWp.loop (α:=Nat) (fun k=>mk 41 3 [(5,.op 5 1 0),(6,.own 18 2 none 0 l.length),(19,.sl nl none (l.map nA)),(20,int l.length),(21,int k)] [(5,1,.row false ((r16 (nxK l k)).map nA)),(18,2,.row false ((Zes l k).map nA))])
  (fun k=>k≤l.length) (fun k=>l.length-k) 0 (Nat.zero_le _) (Zau rfl ?_ ?_ ?_) ?_
 ·exact Nat.le_refl _
 iterate 2 (case _=>(first | exact yU (ja3 hF0.symm hF.symm @hcz) | refine yR (ja3 hF0.symm hF.symm @hcz) ?_))
 rintro k hk -
 repeat (first | refine zS ?_ | exact zT)
 refine SWp.cond rfl (fun h=>?_) (fun h=>?_)
 ·simp only [decide_eq_true_eq] at h
  have hkl:k<l.length:=by omega
  have hx15:l.getD k 0≤15:=by
   have:l.getD k 0=l[k]:=by simp [List.getD,List.getElem?_eq_getElem hkl]
   rw [this];exact h15 _ (List.getElem_mem hkl)
  have hcs:∀ n,(l.take (k+1)).count n=(l.take k).count n+(if n=l.getD k 0 then 1 else 0):=fun n=>Zhx hkl
  have hcd:l.getD k 0≠0→Zbx l k=nxK l k (l.getD k 0):=fun h=>by unfold Zbx nxK;simp [h]
  have hsm:=ZuH hkl
  have hst:=Zyc hkl
  obtain ⟨x,hx⟩:∃ x,x=l.getD k 0:=⟨_,rfl⟩
  rw [←hx] at hx15 hcs hcd hsm
  by_cases c0:x=0
  ·have hsame:r16 (nxK l (k+1))=r16 (nxK l k):=ZlH fun i _=>by
    unfold nxK
    by_cases e:i=0
    ·rw [if_pos e,if_pos e]
    ·rw [if_neg e,if_neg e,hcs,if_neg (by omega)];rfl
   have hsm:=hsm c0
   subst c0
   repeat (first | refine zR (ja2 iR hx.symm) ?_ | exact zU (ja2 iR hx.symm))
   refine At.of (k+1) (by omega) (by omega) rfl rfl (Nat.le_refl _) ?_ ?_
   iterate 2 (case _=>(first | exact yU (ja2 @hsame @hsm) | refine yR (ja2 @hsame @hsm) ?_))
  ·have d0:decide ((0:Int)<(x:Int))=true:=decide_eq_true (by omega)
   have hg:=Zrb (f:=nxK l k) (k:=x) (by omega)
   have hfl:=ZDx hl (n:=x) hx15
   have hcl:=Zfw (l:=l) (k:=k) (n:=x)
   have hyl:nxK l k x≤20971840:=by unfold nxK;rw [if_neg c0];omega
   have hset:=Zrc (f:=nxK l k) (g:=nxK l (k+1)) (k:=x) (x:=nxK l k x+1) (fun i hi=>by
    unfold nxK
    by_cases e:i=0
    ·subst e;rw [if_pos rfl,if_neg (fun h=>c0 h.symm)];rfl
    ·rw [if_neg e,hcs]
     by_cases e2:i=x
     ·subst e2;simp [e,Nat.add_assoc]
     ·simp [e,e2])
   rw [hcd c0] at hst
   obtain ⟨N,hN⟩:∃ N,N=r16 (nxK l k):=⟨_,rfl⟩
   have hNl:N.length=16:=by rw [hN,Zaz]
   obtain ⟨C,hC⟩:∃ C,C=Zes l k:=⟨_,rfl⟩
   have hCl:C.length=l.length:=by rw [hC,Zea]
   obtain ⟨y,hy⟩:∃ y,y=nxK l k x:=⟨_,rfl⟩
   rw [←hN] at hset hg ⊢
   rw [←hC] at hst ⊢
   rw [←hy] at hg hset hyl hst
   have hsp1:=Zcq (l:=C) (k:=k) (x:=y) (by omega)
   rw [hst] at hsp1
   have hsp2:=Zcq (l:=N) (k:=x) (x:=y+1) (by omega)
   rw [hset] at hsp2
   repeat (first | refine zR (ja4 iR hx.symm @d0 @hg) ?_ | exact zU (ja4 iR hx.symm @d0 @hg))
   refine At.of (k+1) (by omega) (by omega) rfl rfl (Nat.le_refl _) ?_ ?_
   ·(first | exact yT | refine yS ?_)
   ·(first | exact yT | refine yS ?_)
    exact ⟨hsp2,hsp1⟩
 ·simp only [decide_eq_false_iff_not] at h
  obtain rfl:k=l.length:=by omega
  rw [Zyb]
  have hlc:=Zid (l:=l)
  repeat (first | refine zR iR ?_ | exact zU iR)
theorem ZsM [Tabs Tryz.prog] (nl:Bool) (li:List Int) (hc:chk li=0) (l:List Nat) (hli:l=li.map Int.toNat):Con Tryz.prog Zi1 [.sl nl none (li.map int)] (.tup [.sl false none ((ZbM l).map nA),int 0]):=by
 have hlc:=Zid (l:=l)
 refine (ZsL nl li hc l hli).con _ ?_ (by simp only [AV.free,AV.free.freeL,Zab,int,Bool.and_self])
 (first | exact yU iR | refine yR iR ?_)
end Go.Proofs.YtbcncdpaigljeaaGreatDoor.Aw
