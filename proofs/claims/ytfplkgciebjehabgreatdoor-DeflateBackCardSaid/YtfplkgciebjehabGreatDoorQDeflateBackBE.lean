/- Parts of the proof of DeflateBack. -/
import Derived.Test.YtfplkgciebjehabGreatDoorQDeflateBackBC
import Derived.Test.YtfplkgciebjehabGreatDoorQDeflateBackBB
import Derived.Shelf.Small.Strs
import Derived.Shelf.Strings.Search1
import Derived.Shelf.Bytes.IndexByte
import Derived.Test.YtfplkgciebjehabGreatDoorProg
import Derived.Test.YtfplkgciebjehabGreatDoorQDeflateBackBD
namespace Go.Proofs.YtfplkgciebjehabGreatDoor.Aw
open Go
set_option linter.defProp false
set_option maxRecDepth 100000
set_option linter.unusedSimpArgs false
set_option linter.unusedVariables false
set_option linter.defProp false
def nA (n:Nat):AV:=.sc (.int .i64 (n:Int))
theorem Zct {l:List Nat} {i:Nat} (h:i<l.length):(l.map nA).getD i .junk = .sc (.int .i64 ((l.getD i 0:Nat):Int)):=by
 simp [List.getD,List.getElem?_eq_getElem h,nA]
theorem ZzU {l:List Int} {i:Nat} (h:i<l.length):(l.map int).getD i .junk = .sc (.int .i64 (l.getD i 0)):=by
 simp [List.getD,List.getElem?_eq_getElem h,int]
theorem Zaa {l:List Nat}:AV.free.freeL (l.map nA)=true:=ZbB.2 fun x hx=>by
 obtain ⟨n,_,rfl⟩:=List.mem_map.1 hx;rfl
theorem ZeT {l:List Int}:AV.free.freeL (l.map int)=true:=ZbB.2 fun x hx=>by
 obtain ⟨n,_,rfl⟩:=List.mem_map.1 hx;rfl
theorem ZoO {ρ:Nat→Nat→Nat × Nat} {l:List Nat}:ren.renL ρ (l.map nA)=l.map nA:=Zbm ρ _ Zaa
theorem ZFs {ρ:Nat→Nat→Nat × Nat} {l:List Int}:ren.renL ρ (l.map int)=l.map int:=Zbm ρ _ ZeT
theorem ZgF {l:List Nat} {n:Nat}:(l.map nA).take n=(l.take n).map nA:=by simp
theorem Zhp {l:List Nat} {n:Nat}:(l.map nA).drop n=(l.drop n).map nA:=by simp
theorem ZFt {l:List Int} {n:Nat}:(l.map int).take n=(l.take n).map int:=by simp
theorem ZFu {l:List Int} {n:Nat}:(l.map int).drop n=(l.drop n).map int:=by simp
theorem ZFv {id g:Nat} {nl:Bool} {cells:List AV} {l:List Nat}:fzo.fzoL id g nl cells (l.map nA)=l.map nA:=ZcM _ Zaa
theorem ZFw {id g:Nat} {nl:Bool} {cells:List AV} {l:List Int}:fzo.fzoL id g nl cells (l.map int)=l.map int:=ZcM _ ZeT
theorem ZzV {hp:Hp}:∀ {l:List Nat},frz.frzL hp (l.map nA)=l.map nA
 | []=>rfl
 | c::l=>by simp only [List.map_cons,frz.frzL,ZzV];rfl
theorem ZD2:∀ {l:List UInt8},AV.fo.foL (l.map u8)=true
 | []=>rfl
 | _::l=>by simp only [List.map_cons,AV.fo.foL,u8,AV.fo,Bool.true_and];exact ZD2
theorem ZbJ {l:List Nat} {k x:Nat} (h:k<l.length):(l.take k).map nA++(.sc (.int .i64 (x:Int))::(l.drop (k+1)).map nA)=(l.set k x).map nA:=by
 rw [List.set_eq_take_append_cons_drop,if_pos h]
 simp [nA]
theorem ZzW {l:List Int} {k:Nat} {x:Int} (h:k<l.length):(l.take k).map int++(.sc (.int .i64 x)::(l.drop (k+1)).map int)=(l.set k x).map int:=by
 rw [List.set_eq_take_append_cons_drop,if_pos h]
 simp [int]
theorem ZaC {st:ASt}:Zih st [] = .tup []:=rfl
def iR:=And.intro @ZaC <| And.intro (And.intro (And.intro @Zct @ZzU) (And.intro @Zaa @ZeT)) (And.intro (And.intro (And.intro @ZoO @ZFs) (And.intro (And.intro @ZgF @Zhp) (And.intro @ZFt @ZFu))) (And.intro (And.intro @ZFv @ZFw) @ZzV))
def fR:=And.intro (And.intro (And.intro @ZHj @ZFn) (And.intro @ZC3 @ZHk)) (And.intro (And.intro (And.intro @ZHl @ZFo) (And.intro @ZFp @ZuA)) (And.intro (And.intro (And.intro @ZD1 @ZC4) (And.intro @ZzR @ZFq)) (And.intro @ZFr (And.intro @ZHm @ZHn))))
theorem ZgS {α:Type} {l:List α} {k:Nat} {d:α} (h:k<l.length):l.take (k+1)=l.take k++[l.getD k d]:=by
 rw [List.take_succ_eq_append_getElem h];simp [List.getD,List.getElem?_eq_getElem h]
theorem Zbg {x:Int} (h1:0≤x) (h2:x<18446744073709551616):IntKind.u64.wrap x=x:=by
 simp only [IntKind.wrap,IntKind.bits,IntKind.signed]
 simp
 omega
theorem ZaR {n m:Nat} (h:n≤m):2^n≤2^m:=Nat.pow_le_pow_right zO h
end Go.Proofs.YtfplkgciebjehabGreatDoor.Aw
namespace Go.Proofs
open Go.Shelf
open Go.RowKit in
open Go.RowKit Go.Lib in
set_option linter.defProp false
set_option maxRecDepth 100000
end Go.Proofs
namespace Go.Proofs.YtfplkgciebjehabGreatDoor.Aw
open Go
set_option linter.defProp false
set_option maxRecDepth 100000
set_option linter.unusedSimpArgs false
set_option linter.unusedVariables false
theorem ZlY [Tabs Tryz.prog] (nl:Bool) (l:List UInt8) (hl:l.length≤1000000) (hn:nl=true→l=[]):Con Tryz.prog Zd6 [.sl nl none (l.map u8)] (.sl nl none (l.map u8)):=by
 refine Con.of' mix Tryz.func42 rfl Tryz.ntmps42 ZlH ZlI zB (by simp only [AV.free,AV.free.freeL,ZaD,Bool.and_self]) (by simp only [AV.free,ZaD]) ?_
 unfold Zij
 cases nl with
 | true =>
  obtain rfl:=hn rfl
  iterate 8 (first|refine zS ?_|exact zT)
  refine SWp.adopt 2 none yT ?_
  repeat (first|refine zS ?_|exact zT)
 | false =>
  repeat (first|refine zS ?_|exact zT)
theorem Zrc [Tabs Tryz.prog] (nl:Bool) (l:List UInt8) (hl:l.length≤1000000) (hn:nl=true→l=[]):HCon Tryz.prog Zd6 [.sl nl none (l.map u8)] [] (.own 5 2 none 0 l.length) [(5,2,.row nl (l.map u8))] 3:=by
 refine HCon.of' mix Tryz.func42 rfl Tryz.ntmps42 ZlH ZlI zB (by simp only [AV.gl.glL,AV.gl,and_true];exact Zag _ _ ZaD) zB ?_
 unfold Zij
 cases nl with
 | true =>
  obtain rfl:=hn rfl
  iterate 8 (first|refine zS ?_|exact zT)
  refine SWp.adopt 2 none yT ?_
  refine SWp.le (Zaj (N:=8) (gc:=2) (l:=[(2,.own 2 1 none 0 0)]) (h:=[(2,1,.row true [])]) rfl ?_ ?_ ?_) ?_
  iterate 3 (case _=>(first|exact yT|refine yS ?_))
  refine SWp.swap 2 5 (yU (ja2 @ZnD.eq_1 @ZnD.eq_2)) (yU (ja2 @ZnD.eq_1 @ZnD.eq_2)) ?_
  refine SWp.le (Zaj (N:=8) (gc:=2) (l:=[(2,.own 5 1 none 0 0)]) (h:=[(5,1,.row true [])]) rfl ?_ ?_ ?_) ?_
  iterate 3 (case _=>(first|exact yU (ja3 @ZD0 @sw.eq_1 @swH.eq_1)|refine yR (ja3 @ZD0 @sw.eq_1 @swH.eq_1) ?_))
  refine SWp.renew 5 1 (o:=.row true []) yT ?_
  refine SWp.le (Zaj (N:=8) (gc:=3) (l:=[(2,.own 5 2 none 0 0)]) (h:=[(5,2,.row true [])]) rfl ?_ ?_ ?_) ?_
  iterate 3 (case _=>(first|exact yU (ja2 @Zba @Zbb)|refine yR (ja2 @Zba @Zbb) ?_))
  repeat (first|refine zS ?_|exact zT)
 | false =>
  repeat (first|refine zS ?_|exact zT)
def ZdA (c:UInt8):List Nat:=(List.range 8).map fun k=>c.toNat / 2^k % 2
def Zah (l:List UInt8):List Nat:=l.flatMap ZdA
def Zlb (l:List UInt8) (i:Nat):Nat:=(l.getD (i / 8) 0).toNat / 2^(i % 8) % 2
theorem ZaW {c:UInt8}:(ZdA c).length=8:=by simp [ZdA]
theorem Zac:∀ {l:List UInt8},(Zah l).length=8*l.length
 | []=>rfl
 | c::l=>by show (ZdA c++Zah l).length=_;rw [List.length_append,ZaW,Zac,List.length_cons];omega
theorem ZbD {l m:List UInt8}:Zah (l++m)=Zah l++Zah m:=by simp [Zah]
theorem ZxT {l:List UInt8} {k:Nat} (h:k<l.length):Zah (l.take (k+1))=Zah (l.take k)++ZdA (l.getD k 0):=by
 rw [ZgS (d:=0) h,ZbD];simp [Zah]
theorem ZsE {c:UInt8} {k:Nat} (h:k<8):(ZdA c).getD k 0=c.toNat / 2^k % 2:=by
 simp [ZdA,List.getD,h]
theorem ZxU {c:UInt8} {k:Nat} (h:k<8):(ZdA c).take (k+1)=(ZdA c).take k++[c.toNat / 2^k % 2]:=by
 rw [ZgS (d:=0) (by rw [ZaW];exact h),ZsE h]
theorem ZlZ:∀ {l:List UInt8} {i:Nat},i<8*l.length→(Zah l).getD i 0=Zlb l i
 | [],i,h=>by simp at h
 | c::l,i,h=>by
  show (ZdA c++Zah l).getD i 0=_
  by_cases hi:i<8
  ·have e1:i / 8=0:=zO
   have e2:i % 8=i:=zO
   have:(ZdA c++Zah l).getD i 0=(ZdA c).getD i 0:=by
    simp only [List.getD];rw [List.getElem?_append_left (by rw [ZaW];exact hi)]
   rw [this,ZsE hi,Zlb,e1,e2];rfl
  ·have e1:i / 8=(i-8) / 8+1:=zO
   have e2:i % 8=(i-8) % 8:=zO
   have:(ZdA c++Zah l).getD i 0=(Zah l).getD (i-8) 0:=by
    simp only [List.getD];rw [List.getElem?_append_right (by rw [ZaW];omega),ZaW]
   rw [this,ZlZ (by simp only [List.length_cons] at h;omega),Zlb,Zlb,e1,e2];rfl
theorem Zrd {l:List UInt8} {i:Nat}:Zlb l i<2:=Nat.mod_lt _ zO
def Zeq:List Nat→Nat
 | []=>0
 | x::r=>x+2*Zeq r
theorem ZeU {a b:List Nat}:Zeq (a++b)=Zeq a+2^a.length*Zeq b:=by
 induction a with
 | nil=>simp [Zeq]
 | cons x a ih=>simp only [List.cons_append,Zeq,ih,List.length_cons,Nat.pow_succ,Nat.mul_add];rw [Nat.mul_comm (2^a.length) 2,Nat.mul_assoc];omega
theorem ZmV {l:List Nat} (h:∀ x∈l,x<2):Zeq l<2^l.length:=by
 induction l with
 | nil=>simp [Zeq]
 | cons x l ih =>
  have h1:=h x zB
  have h2:=ih fun y hy=>h y (by simp [hy])
  simp only [Zeq,List.length_cons,Nat.pow_succ];omega
theorem ZdI {l:List UInt8}:∀ x∈Zah l,x<2:=by
 intro x hx
 simp only [Zah,ZdA,List.mem_flatMap,List.mem_map] at hx
 obtain ⟨_,_,_,_,rfl⟩:=hx
 exact Nat.mod_lt _ zO
def rdR (nl:Bool) (b:List UInt8) (i:Nat):List AV:=[.sl nl none (b.map u8),.sc (.int .i64 (i:Int))]
theorem Zre {nl:Bool} {b:List UInt8} {i:Nat}:∀ n cells,AO.row n cells∈[AO.row false (rdR nl b i)]→AV.gl.glL 1 cells:=by
 intro n cells h
 simp only [List.mem_singleton,AO.row.injEq] at h
 obtain ⟨-,rfl⟩:=h
 simp only [rdR,AV.gl.glL,AV.gl,and_true]
 exact Zag _ _ ZaD
theorem ZnU [Tabs Tryz.prog] (nl:Bool) (b:List UInt8) (hl:b.length≤1000000) (hn:nl=true→b=[]) :
  HCon Tryz.prog ZiI [.sl nl none (b.map u8)] [] (.op 6 1 0) [(6,1,.row false (rdR nl b 0))] 2:=by
 refine HCon.of' mix Tryz.func19 rfl Tryz.ntmps19 ZnE ZnF zB (by simp only [AV.gl.glL,AV.gl,and_true];exact Zag _ _ ZaD) zB ?_
 unfold ZiL
 repeat (first|refine zS ?_|exact zT)
 refine Zaz _ (.inl ⟨by simp only [AV.free,AV.free.freeL,ZaD,Bool.and_self],ZlY nl b hl hn⟩) ?_
 repeat (first|refine zR @rdR.eq_1 ?_|exact zU @rdR.eq_1)
theorem ZzX [Tabs Tryz.prog] (nl:Bool) (b:List UInt8) (i:Nat) :
  HCon Tryz.prog ZiK [.op 1000 0 0] [.row false (rdR nl b i)] (int (i:Int)) [(1000,0,.row false (rdR nl b i))] 1:=by
 refine HCon.of' mix Tryz.func21 rfl Tryz.ntmps21 ZnG ZnH zB (by simp [AV.gl,AV.gl.glL]) Zre ?_
 unfold ZiM
 repeat (first|refine zR @rdR.eq_1 ?_|exact zU @rdR.eq_1)
theorem ZgG [Tabs Tryz.prog] (nl:Bool) (b:List UInt8) (hl:b.length≤1000000) (i:Nat) (hi:i≤8*b.length) :
  HCon Tryz.prog ZcF [.op 1000 0 0] [.row false (rdR nl b i)] (int ((8*b.length-i:Nat):Int)) [(1000,0,.row false (rdR nl b i))] 1:=by
 refine HCon.of' mix Tryz.func84 rfl Tryz.ntmps84 ZlJ ZlK zB (by simp [AV.gl,AV.gl.glL]) Zre ?_
 unfold Zg3
 have e:(b.length:Int)*8-(i:Int)=((8*b.length-i:Nat):Int):=zO
 repeat (first|refine zR (ja2 @rdR.eq_1 @e) ?_|exact zU (ja2 @rdR.eq_1 @e))
theorem Zqn [Tabs Tryz.prog] (nl:Bool) (b:List UInt8) (hl:b.length≤1000000) (i:Nat) (hi:i<8*b.length) :
  HCon Tryz.prog ZeR [.op 1000 0 0] [.row false (rdR nl b i)] (.sc (.int .i64 ((Zlb b i:Nat):Int))) [(1000,0,.row false (rdR nl b (i+1)))] 1:=by
 refine HCon.of' mix Tryz.func85 rfl Tryz.ntmps85 ZmH ZmI zB (by simp [AV.gl,AV.gl.glL]) Zre ?_
 unfold ZhL
 have h8:i / 8<b.length:=zO
 have hm:i % 8<64:=zO
 obtain ⟨c,hc⟩:∃ c,c=b.getD (i / 8) 0:=⟨_,rfl⟩
 obtain ⟨x,hx⟩:∃ x,x=c.toNat / 2^(i % 8):=⟨_,rfl⟩
 have hb:Zlb b i=x % 2:=by rw [Zlb,←hc,←hx]
 have hcl:=c.toNat_lt
 have hxl:x<256:=by rw [hx];exact Nat.lt_of_le_of_lt (Nat.div_le_self _ _) hcl
 repeat (first|refine zR (ja4 @rdR.eq_1 hc.symm hx.symm @hb) ?_|exact zU (ja4 @rdR.eq_1 hc.symm hx.symm @hb))
def ZHo (len i:Nat) (n:Int):Bool:=decide (0≤n∧n≤24∧n≤((8*len-i:Nat):Int))
def ZaY (b:List UInt8) (i n:Nat):Nat:=Zeq ((List.range n).map fun k=>Zlb b (i+k))
theorem ZmW {b:List UInt8} {i n:Nat}:ZaY b i (n+1)=ZaY b i n+2^n*Zlb b (i+n):=by
 unfold ZaY;rw [List.range_succ,List.map_append,ZeU];simp [Zeq]
theorem Ze1 {b:List UInt8} {i n:Nat}:ZaY b i n<2^n:=by
 have:=ZmV (l:=(List.range n).map fun k=>Zlb b (i+k)) (by intro x hx;obtain ⟨k,_,rfl⟩:=List.mem_map.1 hx;exact Zrd)
 simpa [ZaY] using this
theorem Zd2 [Tabs Tryz.prog] (nl:Bool) (b:List UInt8) (hl:b.length≤1000000) (i:Nat) (hi:i≤8*b.length) (n:Int) (hn:ZHo b.length i n=false) :
  HCon Tryz.prog Za1 [.op 1000 0 0,int n] [.row false (rdR nl b i)] (.tup [int 0,boo false]) [(1000,0,.row false (rdR nl b i))] 30:=by
 refine HCon.of' mix Tryz.func43 rfl Tryz.ntmps43 Zg1 Zg2 zB (by simp [AV.gl,AV.gl.glL,int]) Zre ?_
 unfold Zea
 have hn':=of_decide_eq_false hn
 by_cases c1:n<0
 ·have d1:=decide_eq_true c1
  repeat (first|refine zR @d1 ?_|exact zU @d1)
 have d1:=decide_eq_false c1
 by_cases c2:24<n
 ·have d2:=decide_eq_true c2
  repeat (first|refine zR (ja2 @d1 @d2) ?_|exact zU (ja2 @d1 @d2))
 have d2:=decide_eq_false c2
 have d3:decide (((8*b.length-i:Nat):Int)<n)=true:=decide_eq_true zO
 repeat (first|refine zR (ja2 @d1 @d2) ?_|exact zU (ja2 @d1 @d2))
 refine Zae [(1000,0)] 2000 (ZgG nl b hl i hi) zB zB ?_ ?_ ?_
 iterate 2 (case _=>(first|exact yU @rdR.eq_1|refine yR @rdR.eq_1 ?_))
 repeat (first|refine zR (ja3 @d3 @rdR.eq_1 iR) ?_|exact zU (ja3 @d3 @rdR.eq_1 iR))
def BE8:=ja2 @rdR.eq_1 @Int.add_assoc
theorem ZeV [Tabs Tryz.prog] (nl:Bool) (b:List UInt8) (hl:b.length≤1000000) (i:Nat) (hi:i≤8*b.length) (n:Nat) (hn:n≤24) (hn2:i+n≤8*b.length) :
  HCon Tryz.prog Za1 [.op 1000 0 0,int (n:Int)] [.row false (rdR nl b i)] (.tup [int (ZaY b i n:Nat),boo true]) [(1000,0,.row false (rdR nl b (i+n)))] 30:=by
 refine HCon.of' mix Tryz.func43 rfl Tryz.ntmps43 Zg1 Zg2 zB (by simp [AV.gl,AV.gl.glL,int]) Zre ?_
 unfold Zea
 have d1:decide ((n:Int)<0)=false:=decide_eq_false zO
 have d2:decide (24<(n:Int))=false:=decide_eq_false zO
 have d3:decide (((8*b.length-i:Nat):Int)<(n:Int))=false:=decide_eq_false zO
 repeat (first|refine zR (ja2 @d1 @d2) ?_|exact zU (ja2 @d1 @d2))
 refine Zae [(1000,0)] 2000 (ZgG nl b hl i hi) zB zB ?_ ?_ ?_
 iterate 2 (case _=>(first|exact yU @rdR.eq_1|refine yR @rdR.eq_1 ?_))
 repeat (first|refine zR (ja2 @d3 @rdR.eq_1) ?_|exact zU (ja2 @d3 @rdR.eq_1))
 refine SWp.loop (α:=Nat) (fun k=>mk 32 (2+k) [(0,.op 1000 0 0),(1,int n),(6,int (ZaY b i k:Nat)),(20,int n),(21,int k)] [(1000,0,.row false (rdR nl b (i+k)))])
  (fun k=>k≤n) (fun k=>n-k) 0 (Nat.zero_le _) (Zaj rfl ?_ ?_ ?_) ?_
 ·simp only;omega
 iterate 2 (case _=>(first|exact yU (ja5 @ZaY.eq_1 @List.range_zero @Zeq.eq_1 @Zeq.eq_2 @rdR.eq_1)|refine yR (ja5 @ZaY.eq_1 @List.range_zero @Zeq.eq_1 @Zeq.eq_2 @rdR.eq_1) ?_))
 rintro k hk -
 repeat (first|refine zS ?_|exact zT)
 refine SWp.cond rfl (fun h=>?_) (fun h=>?_)
 ·simp only [decide_eq_true_eq] at h
  have hkn:k<n:=zO
  have hs:=ZmW (b:=b) (i:=i) (n:=k)
  have hlt:=Ze1 (b:=b) (i:=i) (n:=k)
  have hbl:=Zrd (l:=b) (i:=i+k)
  have hp:2^k≤8388608:=ZaR (show k≤23 by omega)
  obtain ⟨x,hx⟩:∃ x,x=Zlb b (i+k):=⟨_,rfl⟩
  obtain ⟨y,hy⟩:∃ y,y=ZaY b i k:=⟨_,rfl⟩
  have hbit:=Zqn nl b hl (i+k) zO
  rw [←hx] at hbit hs hbl
  rw [←hy] at hs hlt
  rw [←hy]
  obtain ⟨z,hz⟩:∃ z,z=x*2^k:=⟨_,rfl⟩
  have hor:y|||z=ZaY b i (k+1):=by
   rw [hs,hz,Nat.mul_comm,Nat.or_comm,←Nat.two_pow_add_eq_or_of_lt hlt,Nat.add_comm]
  have hzl:z≤8388608:=by
   obtain rfl | rfl:x=0∨x=1:=zO
   ·omega
   ·omega
  have hyl:y<8388608:=zO
  repeat (first|refine zR @rdR.eq_1 ?_|exact zU @rdR.eq_1)
  refine Zae [(1000,0)] 2000 hbit zB zB ?_ ?_ ?_
  iterate 2 (case _=>(first|exact yU @rdR.eq_1|refine yR @rdR.eq_1 ?_))
  repeat (first|refine zR (ja3 @rdR.eq_1 hz.symm @hor) ?_|exact zU (ja3 @rdR.eq_1 hz.symm @hor))
  refine At.of (k+1) zO zO rfl rfl ?_ ?_ ?_
  ·simp only;omega
  iterate 2 (case _=>(first|exact yU BE8|refine yR BE8 ?_))
 ·simp only [decide_eq_false_iff_not] at h
  obtain rfl:k=n:=zO
  repeat (first|refine zR @rdR.eq_1 ?_|exact zU @rdR.eq_1)
  omega
theorem Zjr [Tabs Tryz.prog] (nl:Bool) (b:List UInt8) (hl:b.length≤1000000) (i:Nat) (hi:i≤8*b.length) :
  HCon Tryz.prog ZdL [.op 1000 0 0] [.row false (rdR nl b i)] (.tup []) [(1000,0,.row false (rdR nl b ((i+7) / 8*8)))] 1:=by
 refine HCon.of' mix Tryz.func86 rfl Tryz.ntmps86 ZkT ZkU zB (by simp [AV.gl,AV.gl.glL]) Zre ?_
 unfold Zgu
 obtain ⟨m,hm⟩:∃ m,m=i+7:=⟨_,rfl⟩
 have e:(i:Int)+8-1=(m:Int):=zO
 rw [←hm]
 repeat (first|refine zR (ja2 @rdR.eq_1 @e) ?_|exact zU (ja2 @rdR.eq_1 @e))
 refine ⟨rfl,?_⟩
 rw [Int.natCast_mul];rfl
def ZFx (len i:Nat) (n:Int):Bool:=decide (0≤n∧n≤((len-(i+7) / 8:Nat):Int))
theorem Zrf [Tabs Tryz.prog] (nl:Bool) (b:List UInt8) (hl:b.length≤1000000) (i:Nat) (hi:i≤8*b.length) (n:Int) (hn:ZFx b.length i n=false) :
  HCon Tryz.prog ZdM [.op 1000 0 0,int n] [.row false (rdR nl b i)] (.tup [.sc (.slice none 0 0),boo false]) [(1000,0,.row false (rdR nl b ((i+7) / 8*8)))] 10:=by
 refine HCon.of' mix Tryz.func87 rfl Tryz.ntmps87 Zgv Zgw zB (by simp [AV.gl,AV.gl.glL,int]) Zre ?_
 unfold ZdO
 have hn':=of_decide_eq_false hn
 obtain ⟨j,hj⟩:∃ j,j=(i+7) / 8:=⟨_,rfl⟩
 rw [←hj] at hn' ⊢
 repeat (first|refine zS ?_|exact zT)
 refine Zae [(1000,0)] 2000 (Zjr nl b hl i hi) zB zB ?_ ?_ ?_
 iterate 2 (case _=>(first|exact yU @rdR.eq_1|refine yR @rdR.eq_1 ?_))
 rw [←hj]
 by_cases c1:n<0
 ·have d1:=decide_eq_true c1
  repeat (first|refine zR (ja2 @d1 @rdR.eq_1) ?_|exact zU (ja2 @d1 @rdR.eq_1))
 have d1:=decide_eq_false c1
 have d3:decide (((8*b.length-j*8:Nat):Int) / 8<n)=true:=decide_eq_true zO
 have d3':decide ((((8*b.length-j*8) / 8:Nat):Int)<n)=true:=decide_eq_true zO
 repeat (first|refine zR (ja2 @d1 @rdR.eq_1) ?_|exact zU (ja2 @d1 @rdR.eq_1))
 refine Zae [(1000,0)] 3000 (ZgG nl b hl (j*8) zO) zB zB ?_ ?_ ?_
 iterate 2 (case _=>(first|exact yU @rdR.eq_1|refine yR @rdR.eq_1 ?_))
 repeat (first|refine zR (ja2 @d3' @rdR.eq_1) ?_|exact zU (ja2 @d3' @rdR.eq_1))
theorem ZsF [Tabs Tryz.prog] (nl:Bool) (b:List UInt8) (hl:b.length≤1000000) (hnl:nl=true→b=[]) (i:Nat) (hi:i≤8*b.length) (j:Nat) (hj:j=(i+7) / 8) (n:Nat) (hn:n+j≤b.length) :
  HCon Tryz.prog ZdM [.op 1000 0 0,int (n:Int)] [.row false (rdR nl b i)] (.tup [.sl nl none (((b.drop j).take n).map u8),boo true]) [(1000,0,.row false (rdR nl b (8*(j+n))))] 10:=by
 refine HCon.of' mix Tryz.func87 rfl Tryz.ntmps87 Zgv Zgw zB (by simp [AV.gl,AV.gl.glL,int]) Zre ?_
 unfold ZdO
 repeat (first|refine zS ?_|exact zT)
 refine Zae [(1000,0)] 2000 (Zjr nl b hl i hi) zB zB ?_ ?_ ?_
 iterate 2 (case _=>(first|exact yU @rdR.eq_1|refine yR @rdR.eq_1 ?_))
 rw [←hj]
 have d1:decide ((n:Int)<0)=false:=decide_eq_false zO
 have d3:decide ((((8*b.length-j*8) / 8:Nat):Int)<(n:Int))=false:=decide_eq_false zO
 have hnl':nl=true→(b.drop j).take n=[]:=fun h=>by rw [hnl h];simp
 have e2:j*8 / 8=j:=zO
 have hl2:((b.drop j).take n).length≤1000000:=by rw [List.length_take,List.length_drop];omega
 have hdt:(b.take (j+n)).drop j=(b.drop j).take n:=by rw [List.drop_take];congr 1;omega
 have e3:8*(j+n)=j*8+n*8:=zO
 rw [e3]
 repeat (first|refine zR (ja2 @d1 @rdR.eq_1) ?_|exact zU (ja2 @d1 @rdR.eq_1))
 refine Zae [(1000,0)] 3000 (ZgG nl b hl (j*8) zO) zB zB ?_ ?_ ?_
 iterate 2 (case _=>(first|exact yU @rdR.eq_1|refine yR @rdR.eq_1 ?_))
 repeat (first|refine zR (ja4 @d3 @rdR.eq_1 @e2 @hdt) ?_|exact zU (ja4 @d3 @rdR.eq_1 @e2 @hdt))
 refine Zaz _ (.inl ⟨by simp only [AV.free,AV.free.freeL,ZaD,Bool.and_self],ZlY nl _ hl2 hnl'⟩) ?_
 repeat (first|refine zR @rdR.eq_1 ?_|exact zU @rdR.eq_1)
 rw [Int.natCast_mul n 8];rfl
def BE16:=ja4 @Zbh @List.take_zero.{0} @Zah.eq_1 @List.flatMap_nil.{0,0}
theorem ZxV [Tabs Tryz.prog] (nl:Bool) (b:List UInt8) (hl:b.length≤1000000):Con Tryz.prog Zgd [.sl nl none (b.map u8)] (.sl (nl0 b.length) none ((Zah b).map nA)):=by
 refine Con.of' mix Tryz.func22 rfl Tryz.ntmps22 ZkN ZkO zB (by simp only [AV.free,AV.free.freeL,ZaD,Bool.and_self]) (by simp only [AV.free,Zaa]) ?_
 unfold Zgj
 repeat (first|refine zS ?_|exact zT)
 refine SWp.adopt 3 none yT ?_
 refine SWp.loop (α:=Nat × Nat × Nat) (fun x=>mk 30 x.2.2 [(0,.sl nl none (b.map u8)),(3,.own 3 x.2.1 none 0 (8*x.1)),(4,int x.1)] [(3,x.2.1,.row (nl0 x.1) ((Zah (b.take x.1)).map nA))])
  (fun x=>x.1≤b.length) (fun x=>b.length-x.1) (0,0,1) (Nat.zero_le _) (Zaj rfl ?_ ?_ ?_) ?_
 ·exact Nat.le_refl _
 iterate 2 (case _=>(first|exact yU BE16|refine yR BE16 ?_))
 rintro ⟨k,g,c⟩ hk -
 simp only at hk
 have hlk:(Zah (b.take k)).length=8*k:=by rw [Zac,List.length_take];omega
 repeat (first|refine zS ?_|exact zT)
 refine SWp.cond rfl (fun h=>?_) (fun h=>?_)
 ·simp only [decide_eq_true_eq] at h
  have hk8:k<b.length:=zO
  have hs:=ZxT hk8
  obtain ⟨y,hy⟩:∃ y,y=b.getD k 0:=⟨_,rfl⟩
  rw [←hy] at hs
  have hyl:=y.toNat_lt
  have hn8:nl0 (8*k)=nl0 k:=by cases k <;> rfl
  repeat (first|refine zR hy.symm ?_|exact zU hy.symm)
  refine SWp.loop (α:=Nat × Nat × Nat × Nat) (fun x=>mk 30 x.2.2.1 [(0,.sl nl none (b.map u8)),(3,.own 3 x.2.1 none 0 (8*k+x.1)),(4,int k),(5,int (x.2.2.2:Nat)),(6,int x.1)] [(3,x.2.1,.row (nl0 (8*k+x.1)) ((Zah (b.take k)).map nA++((ZdA y).take x.1).map nA))])
   (fun x=>x.1≤8∧x.2.2.2=y.toNat / 2^x.1) (fun x=>8-x.1) (0,g,c,y.toNat) ⟨Nat.zero_le _,by simp⟩ (Zaj rfl ?_ ?_ ?_) ?_
  ·exact Nat.le_refl _
  iterate 2 (case _=>(first|exact yU @hn8|refine yR @hn8 ?_))
  rintro ⟨j,g,c,v⟩ ⟨hj,hv⟩ -
  simp only at hj hv
  have hlj:((ZdA y).take j).length=j:=by rw [List.length_take,ZaW];omega
  have hvl:v<256:=by rw [hv];exact Nat.lt_of_le_of_lt (Nat.div_le_self _ _) hyl
  repeat (first|refine zS ?_|exact zT)
  refine SWp.cond rfl (fun h=>?_) (fun h=>?_)
  ·simp only [decide_eq_true_eq] at h
   have hj8:j<8:=zO
   have hsb:=ZxU (c:=y) hj8
   rw [←hv] at hsb
   repeat (first|refine zR (ja3 @hlk @hlj iR) ?_|exact zU (ja3 @hlk @hlj iR))
   refine At.of (j+1,c,c+1,v / 2) ⟨by simp only;omega,by simp only;rw [hv,Nat.div_div_eq_div_mul,Nat.pow_succ]⟩ (by simp only;omega) rfl rfl (Nat.le_refl _) ?_ ?_
   ·(first|exact yT|refine yS ?_)
    omega
   ·(first|exact yU (ja3 @hsb @Zbi @nA.eq_1)|refine yR (ja3 @hsb @Zbi @nA.eq_1) ?_)
    exact (Zca zO).symm
  ·simp only [decide_eq_false_iff_not] at h
   obtain rfl:j=8:=zO
   have ht:(ZdA y).take 8=ZdA y:=List.take_of_length_le (by rw [ZaW];exact Nat.le_refl _)
   repeat (first|refine zS ?_|exact zT)
   refine At.of (k+1,g,c) (by simp only;omega) (by simp only;omega) rfl rfl (Nat.le_refl _) ?_ ?_
   ·(first|exact yT|refine yS ?_)
    omega
   ·(first|exact yU (ja3 @hs @ht @Zbi)|refine yR (ja3 @hs @ht @Zbi) ?_)
 ·simp only [decide_eq_false_iff_not] at h
  obtain rfl:k=b.length:=zO
  have hlb:(Zah b).length=8*b.length:=Zac
  repeat (first|refine zR (ja3 @List.take_length.{0} @hlb iR) ?_|exact zU (ja3 @List.take_length.{0} @hlb iR))
theorem ZxW {l:List Nat} {k:Nat} (h:k<l.length):Zeq (l.drop k)=l.getD k 0+2*Zeq (l.drop (k+1)):=by
 rw [List.drop_eq_getElem_cons h];simp [Zeq,List.getD,List.getElem?_eq_getElem h]
theorem ZsG [Tabs Tryz.prog] (nl:Bool) (l:List Nat) (hl:l.length≤24) (h2:∀ x∈l,x<2):Con Tryz.prog Ze5 [.sl nl none (l.map nA)] (int (Zeq l:Nat)):=by
 refine Con.of' mix Tryz.func48 rfl Tryz.ntmps48 Zji Zjj zB (by simp only [AV.free,AV.free.freeL,Zaa,Bool.and_self]) rfl ?_
 unfold Ze6
 repeat (first|refine zS ?_|exact zT)
 refine SWp.loop (α:=Nat) (fun j=>mk 20 0 [(0,.sl nl none (l.map nA)),(3,int (Zeq (l.drop (l.length-j)):Nat)),(4,int ((l.length:Int)-1-j))] [])
  (fun j=>j≤l.length) (fun j=>l.length-j) 0 (Nat.zero_le _) (Zaj rfl ?_ ?_ ?_) ?_
 ·exact Nat.le_refl _
 iterate 2 (case _=>(first|exact yU (ja3 @List.drop_length.{0} @Zeq.eq_1 @Zeq.eq_2)|refine yR (ja3 @List.drop_length.{0} @Zeq.eq_1 @Zeq.eq_2) ?_))
 rintro j hj -
 repeat (first|refine zS ?_|exact zT)
 refine SWp.cond rfl (fun h=>?_) (fun h=>?_)
 ·simp only [decide_eq_true_eq] at h
  have hjl:j<l.length:=zO
  obtain ⟨k,hk⟩:∃ k,k=l.length-(j+1):=⟨_,rfl⟩
  have hk1:l.length-j=k+1:=zO
  have hkl:k<l.length:=zO
  have hi:(l.length:Int)-1-(j:Int)=(k:Int):=zO
  have hs:=ZxW hkl
  have hx2:l.getD k 0<2:=by
   have:l.getD k 0=l[k]:=by simp [List.getD,List.getElem?_eq_getElem hkl]
   rw [this];exact h2 _ (List.getElem_mem hkl)
  have hlt:=ZmV (l:=l.drop (k+1)) fun x hx=>h2 x (List.mem_of_mem_drop hx)
  have hpow:2^(l.drop (k+1)).length≤16777216:=ZaR (n:=(l.drop (k+1)).length) (m:=24) (by rw [List.length_drop];omega)
  obtain ⟨x,hx⟩:∃ x,x=l.getD k 0:=⟨_,rfl⟩
  obtain ⟨y,hy⟩:∃ y,y=Zeq (l.drop (k+1)):=⟨_,rfl⟩
  rw [←hx] at hs hx2
  rw [←hy] at hs hlt
  have hyl:y<16777216:=zO
  repeat (first|refine zR (ja5 @hi iR @hk1 hx.symm hy.symm) ?_|exact zU (ja5 @hi iR @hk1 hx.symm hy.symm))
  refine At.of (j+1) zO zO rfl rfl (Nat.le_refl _) ?_ ?_
  ·(first|exact yU (ja2 hk.symm @hs)|refine yR (ja2 hk.symm @hs) ?_)
   omega
  ·(first|exact yT|refine yS ?_)
 ·simp only [decide_eq_false_iff_not] at h
  obtain rfl:j=l.length:=zO
  repeat (first|refine zR (ja2 @Nat.sub_self @List.drop_zero.{0}) ?_|exact zU (ja2 @Nat.sub_self @List.drop_zero.{0}))
def ZhY (L:List Nat) (k:Nat):UInt8:=UInt8.ofNat (Zeq ((L.drop (8*k)).take 8))
def Zax (L:List Nat):List UInt8:=(List.range ((L.length+7) / 8)).map (ZhY L)
theorem Za9 {L:List Nat}:(Zax L).length=(L.length+7) / 8:=by simp [Zax]
theorem Ziu {L M:List Nat} {k:Nat} (h:8*k+8≤L.length):ZhY (L++M) k=ZhY L k:=by
 unfold ZhY
 rw [List.drop_append_of_le_length zO,List.take_append_of_le_length (by rw [List.length_drop];omega)]
theorem ZsH {L:List Nat} {x:Nat} (h:L.length % 8=0):Zax (L++[x])=Zax L++[UInt8.ofNat x]:=by
 unfold Zax
 rw [List.length_append,List.length_singleton,show (L.length+1+7) / 8=(L.length+7) / 8+1 by omega,List.range_succ,List.map_append]
 congr 1
 ·refine List.map_congr_left fun k hk=>?_
  have:=List.mem_range.1 hk
  exact Ziu zO
 ·have e:8*((L.length+7) / 8)=L.length:=zO
  simp only [List.map_cons,List.map_nil,ZhY,e,List.drop_left]
  simp [Zeq]
theorem ZuB {L:List Nat} (h:L.length % 8≠0):(Zax L).getD (L.length / 8) 0=UInt8.ofNat (Zeq (L.drop (8*(L.length / 8)))):=by
 have hk:L.length / 8<(L.length+7) / 8:=zO
 have:(L.drop (8*(L.length / 8))).take 8=L.drop (8*(L.length / 8)):=List.take_of_length_le (by rw [List.length_drop];omega)
 simp only [List.getD,Zax,List.getElem?_map,List.getElem?_range hk,Option.map_some,Option.getD_some,ZhY,this]
theorem ZsI {L:List Nat} {x:Nat} (h:L.length % 8≠0):Zax (L++[x])=(Zax L).set (L.length / 8) (UInt8.ofNat (Zeq (L.drop (8*(L.length / 8)))+2^(L.length % 8)*x)):=by
 apply List.ext_getElem?
 intro k
 have hl:(L++[x]).length=L.length+1:=by simp
 have e:(L.length+1+7) / 8=(L.length+7) / 8:=zO
 rw [List.getElem?_set,Za9]
 by_cases hk:k<(L.length+7) / 8
 ·have h1:(Zax (L++[x]))[k]? = some (ZhY (L++[x]) k):=by simp [Zax,e,hk]
  have h2:(Zax L)[k]? = some (ZhY L k):=by simp [Zax,hk]
  rw [h1,h2]
  split
  ·rename_i e'
   subst e'
   rw [if_pos hk]
   congr 1
   unfold ZhY
   rw [List.drop_append_of_le_length zO,List.take_of_length_le (by rw [List.length_append,List.length_drop,List.length_singleton];omega),ZeU,List.length_drop]
   have:L.length-8*(L.length / 8)=L.length % 8:=zO
   rw [this];simp [Zeq]
  ·rw [Ziu zO]
 ·have h1:(Zax (L++[x]))[k]? = none:=List.getElem?_eq_none (by rw [Za9,hl];omega)
  have h2:(Zax L)[k]? = none:=List.getElem?_eq_none (by rw [Za9];omega)
  rw [h1,h2]
  split
  ·rename_i e'
   rw [e',if_neg hk]
  ·rfl
def ZbE (v n:Nat):List Nat:=(List.range n).map fun k=>v / 2^k % 2
def ZiT (v n:Nat):List Nat:=(List.range n).map fun k=>v / 2^(n-1-k) % 2
theorem Zfn {v n:Nat}:∀ x∈ZbE v n,x<2:=by
 intro x hx;obtain ⟨k,_,rfl⟩:=List.mem_map.1 hx;exact Nat.mod_lt _ zO
theorem ZuC {v n:Nat}:∀ x∈ZiT v n,x<2:=by
 intro x hx;obtain ⟨k,_,rfl⟩:=List.mem_map.1 hx;exact Nat.mod_lt _ zO
theorem Zar {v n:Nat}:(ZbE v n).length=n:=by simp [ZbE]
theorem Zbv {v n:Nat}:(ZiT v n).length=n:=by simp [ZiT]
theorem ZzY {v n k:Nat} (h:k<n):(ZbE v n).take (k+1)=(ZbE v n).take k++[v / 2^k % 2]:=by
 rw [ZgS (d:=0) (by rw [Zar];exact h)];simp [ZbE,List.getD,h]
theorem ZsJ {v n k:Nat} (h:k<n):(ZiT v n).take (k+1)=(ZiT v n).take k++[v / 2^(n-1-k) % 2]:=by
 rw [ZgS (d:=0) (by rw [Zbv];exact h)];simp [ZiT,List.getD,h]
def wt (n:Nat):Nat:=if n=0 then 0 else 32768 / 2^n
def Zav:List Nat→Nat
 | []=>0
 | n::r=>wt n+Zav r
theorem Zjs {a b:List Nat}:Zav (a++b)=Zav a+Zav b:=by
 induction a with
 | nil=>simp [Zav]
 | cons x a ih=>simp only [List.cons_append,Zav,ih];omega
theorem ZC5 {n:Nat}:wt n≤32768:=by
 unfold wt;split
 ·omega
 ·exact Nat.div_le_self _ _
theorem ZC6 {l:List Nat}:Zav l≤32768*l.length:=by
 induction l with
 | nil=>simp [Zav]
 | cons x l ih=>simp only [Zav,List.length_cons];have:=ZC5 (n:=x);omega
theorem Zqo {l:List Nat} {k:Nat} (h:k<l.length):Zav (l.take (k+1))=Zav (l.take k)+wt (l.getD k 0):=by
 rw [ZgS (d:=0) h,Zjs];simp [Zav]
theorem Zl0 {l:List Nat} {k:Nat}:Zav (l.take k)≤32768*l.length:=by
 refine Nat.le_trans ZC6 (Nat.mul_le_mul_left _ ?_)
 rw [List.length_take];omega
theorem Zjt [Tabs Tryz.prog] (nl:Bool) (l:List Nat) (hl:l.length≤1000) (h15:∀ x∈l,x≤15):Con Tryz.prog Zg0 [.sl nl none (l.map nA)] (int (Zav l:Nat)):=by
 refine Con.of' mix Tryz.func126 rfl Tryz.ntmps126 Zsu Zsv zB (by simp only [AV.free,AV.free.freeL,Zaa,Bool.and_self]) rfl ?_
 unfold Znp
 repeat (first|refine zS ?_|exact zT)
 refine SWp.loop (α:=Nat) (fun k=>mk 20 0 [(3,int (Zav (l.take k):Nat)),(6,.sl nl none (l.map nA)),(7,int l.length),(8,int k)] [])
  (fun k=>k≤l.length) (fun k=>l.length-k) 0 (Nat.zero_le _) (Zaj rfl ?_ ?_ ?_) ?_
 ·exact Nat.le_refl _
 iterate 2 (case _=>(first|exact yU (ja3 @List.take_zero.{0} @Zav.eq_1 @Zav.eq_2)|refine yR (ja3 @List.take_zero.{0} @Zav.eq_1 @Zav.eq_2) ?_))
 rintro k hk -
 repeat (first|refine zS ?_|exact zT)
 refine SWp.cond rfl (fun h=>?_) (fun h=>?_)
 ·simp only [decide_eq_true_eq] at h
  have hkl:k<l.length:=zO
  have hs:=Zqo hkl
  have hle:=Zl0 (l:=l) (k:=k)
  have hx15:l.getD k 0≤15:=by
   have:l.getD k 0=l[k]:=by simp [List.getD,List.getElem?_eq_getElem hkl]
   rw [this];exact h15 _ (List.getElem_mem hkl)
  obtain ⟨x,hx⟩:∃ x,x=l.getD k 0:=⟨_,rfl⟩
  rw [←hx] at hs hx15
  obtain ⟨y,hy⟩:∃ y,y=Zav (l.take k):=⟨_,rfl⟩
  rw [←hy] at hs hle
  by_cases c0:x=0
  ·subst c0
   have e:Zav (l.take (k+1))=y:=by rw [hs];simp [wt]
   repeat (first|refine zR (ja3 iR hx.symm hy.symm) ?_|exact zU (ja3 iR hx.symm hy.symm))
   refine At.of (k+1) zO zO rfl rfl (Nat.le_refl _) ?_ ?_
   iterate 2 (case _=>(first|exact yU @e|refine yR @e ?_))
  ·have d0:decide ((0:Int)<(x:Int))=true:=decide_eq_true zO
   have hw:wt x=32768 / 2^x:=by simp [wt,c0]
   have hw2:=ZC5 (n:=x)
   obtain ⟨z,hz⟩:∃ z,z=32768 / 2^x:=⟨_,rfl⟩
   rw [←hz] at hw
   rw [hw] at hw2
   have e:Zav (l.take (k+1))=y+z:=by rw [hs,hw]
   repeat (first|refine zR (ja5 iR hx.symm hy.symm @d0 hz.symm) ?_|exact zU (ja5 iR hx.symm hy.symm @d0 hz.symm))
   refine At.of (k+1) zO zO rfl rfl (Nat.le_refl _) ?_ ?_
   iterate 2 (case _=>(first|exact yU @e|refine yR @e ?_))
 ·simp only [decide_eq_false_iff_not] at h
  obtain rfl:k=l.length:=zO
  repeat (first|refine zR @List.take_length.{0} ?_|exact zU @List.take_length.{0})
theorem ZoP [Tabs Tryz.prog] (nl:Bool) (l:List Nat) (hl:l.length≤1000) (h15:∀ x∈l,x≤15):Con Tryz.prog Zdo [.sl nl none (l.map nA)] (int (Zav l:Nat)):=by
 refine Con.of' mix Tryz.func99 rfl Tryz.ntmps99 Zki Zkj zB (by simp only [AV.free,AV.free.freeL,Zaa,Bool.and_self]) rfl ?_
 unfold ZfE
 repeat (first|refine zS ?_|exact zT)
 refine SWp.loop (α:=Nat) (fun k=>mk 32 0 [(0,.sl nl none (l.map nA)),(3,int (Zav (l.take k):Nat)),(4,int k)] [])
  (fun k=>k≤l.length) (fun k=>l.length-k) 0 (Nat.zero_le _) (Zaj rfl ?_ ?_ ?_) ?_
 ·exact Nat.le_refl _
 iterate 2 (case _=>(first|exact yU (ja3 @List.take_zero.{0} @Zav.eq_1 @Zav.eq_2)|refine yR (ja3 @List.take_zero.{0} @Zav.eq_1 @Zav.eq_2) ?_))
 rintro k hk -
 repeat (first|refine zS ?_|exact zT)
 refine SWp.cond rfl (fun h=>?_) (fun h=>?_)
 ·simp only [decide_eq_true_eq] at h
  have hkl:k<l.length:=zO
  have hs:=Zqo hkl
  have hle:=Zl0 (l:=l) (k:=k)
  have hx15:l.getD k 0≤15:=by
   have:l.getD k 0=l[k]:=by simp [List.getD,List.getElem?_eq_getElem hkl]
   rw [this];exact h15 _ (List.getElem_mem hkl)
  obtain ⟨x,hx⟩:∃ x,x=l.getD k 0:=⟨_,rfl⟩
  rw [←hx] at hs hx15
  obtain ⟨y,hy⟩:∃ y,y=Zav (l.take k):=⟨_,rfl⟩
  rw [←hy] at hs hle
  by_cases c0:x=0
  ·subst c0
   have e:Zav (l.take (k+1))=y:=by rw [hs];simp [wt]
   repeat (first|refine zR (ja3 iR hx.symm hy.symm) ?_|exact zU (ja3 iR hx.symm hy.symm))
   refine At.of (k+1) zO zO rfl rfl (Nat.le_refl _) ?_ ?_
   iterate 2 (case _=>(first|exact yU @e|refine yR @e ?_))
  ·have d0:decide ((0:Int)<(x:Int))=true:=decide_eq_true zO
   have hw:wt x=32768 / 2^x:=by simp [wt,c0]
   have hw2:=ZC5 (n:=x)
   repeat (first|refine zR (ja4 iR hx.symm hy.symm @d0) ?_|exact zU (ja4 iR hx.symm hy.symm @d0))
   refine SWp.loop (α:=Nat) (fun j=>mk 32 0 [(0,.sl nl none (l.map nA)),(3,int (y:Nat)),(4,int k),(5,int (32768 / 2^j:Nat)),(6,int j)] [])
    (fun j=>j≤x) (fun j=>x-j) 0 (Nat.zero_le _) (Zaj rfl ?_ ?_ ?_) ?_
   ·exact Nat.le_refl _
   iterate 2 (case _=>(first|exact yU (ja2 @Nat.pow_zero hy.symm)|refine yR (ja2 @Nat.pow_zero hy.symm) ?_))
   rintro j hj -
   have hz2:32768 / 2^j≤32768:=Nat.div_le_self _ _
   have hz3:32768 / 2^j / 2=32768 / 2^(j+1):=by rw [Nat.div_div_eq_div_mul,Nat.pow_succ]
   obtain ⟨z,hz⟩:∃ z,z=32768 / 2^j:=⟨_,rfl⟩
   rw [←hz] at hz2 hz3 ⊢
   repeat (first|refine zR (ja2 iR hx.symm) ?_|exact zU (ja2 iR hx.symm))
   refine SWp.cond rfl (fun h=>?_) (fun h=>?_)
   ·simp only [decide_eq_true_eq] at h
    repeat (first|refine zS ?_|exact zT)
    refine At.of (j+1) zO zO rfl rfl (Nat.le_refl _) ?_ ?_
    iterate 2 (case _=>(first|exact yU @hz3|refine yR @hz3 ?_))
   ·simp only [decide_eq_false_iff_not] at h
    obtain rfl:j=x:=zO
    rw [←hz] at hw
    rw [hw] at hw2 hs
    repeat (first|refine zS ?_|exact zT)
    refine At.of (k+1) zO zO rfl rfl (Nat.le_refl _) ?_ ?_
    iterate 2 (case _=>(first|exact yU @hs|refine yR @hs ?_))
 ·simp only [decide_eq_false_iff_not] at h
  obtain rfl:k=l.length:=zO
  repeat (first|refine zR @List.take_length.{0} ?_|exact zU @List.take_length.{0})
def ZuD (x:Int):Bool:=decide (0≤x∧x≤15)
def chk (l:List Int):Nat:=if 320<l.length then 4 else if l.all ZuD=false then 1 else if 32768<Zav (l.map Int.toNat) then 3 else 0
theorem ZsK {l:List Int} {p:Int→Bool} {k:Nat} (hk:k<l.length) (h:(l.take k).all p=true):(l.take (k+1)).all p=p (l.getD k 0):=by
 rw [ZgS (d:=0) hk,List.all_append,h];simp
theorem Zvx {l:List Int} {p:Int→Bool} {k:Nat} (hk:k<l.length) (h:p (l.getD k 0)=false):l.all p=false:=by
 rw [List.all_eq_false]
 refine ⟨l[k],List.getElem_mem hk,?_⟩
 simp [List.getD,List.getElem?_eq_getElem hk] at h
 simp [h]
theorem ZoQ {l:List Int} (h:l.all ZuD=true):l.map int=(l.map Int.toNat).map nA∧∀ x∈l.map Int.toNat,x≤15:=by
 have h2:∀ x∈l,0≤x∧x≤15:=fun x hx=>of_decide_eq_true (List.all_eq_true.1 h x hx)
 constructor
 ·rw [List.map_map]
  refine List.map_congr_left fun x hx=>?_
  have:=h2 x hx
  show AV.sc (.int .i64 x)=AV.sc (.int .i64 ((x.toNat:Nat):Int))
  rw [Int.toNat_of_nonneg this.1]
 ·intro y hy
  obtain ⟨x,hx,rfl⟩:=List.mem_map.1 hy
  have:=h2 x hx
  omega
theorem Zju [Tabs Tryz.prog] (nl:Bool) (l:List Int) (hl:l.length≤1000):Con Tryz.prog ZgX [.sl nl none (l.map int)] (int (chk l:Nat)):=by
 refine Con.of' mix Tryz.func124 rfl Tryz.ntmps124 Zss Zst zB (by simp only [AV.free,AV.free.freeL,ZeT,Bool.and_self]) rfl ?_
 unfold Zno
 by_cases c1:320<l.length
 ·have d1:decide ((320:Int)<(l.length:Int))=true:=decide_eq_true zO
  have hc:chk l=4:=if_pos c1
  repeat (first|refine zR (ja2 @d1 @hc) ?_|exact zU (ja2 @d1 @hc))
 have d1:decide ((320:Int)<(l.length:Int))=false:=decide_eq_false zO
 repeat (first|refine zR @d1 ?_|exact zU @d1)
 refine SWp.loop (α:=Nat) (fun k=>mk 24 0 [(0,.sl nl none (l.map int)),(8,.sl nl none (l.map int)),(9,int l.length),(10,int k)] [])
  (fun k=>k≤l.length∧(l.take k).all ZuD=true) (fun k=>l.length-k) 0 ⟨Nat.zero_le _,by simp⟩ (Zaj rfl ?_ ?_ ?_) ?_
 ·exact Nat.le_refl _
 iterate 2 (case _=>(first|exact yT|refine yS ?_))
 rintro k ⟨hk,ha⟩ -
 repeat (first|refine zS ?_|exact zT)
 refine SWp.cond rfl (fun h=>?_) (fun h=>?_)
 ·simp only [decide_eq_true_eq] at h
  have hkl:k<l.length:=zO
  have hs:=ZsK hkl ha
  have hbad:=Zvx (p:=ZuD) hkl
  obtain ⟨x,hx⟩:∃ x,x=l.getD k 0:=⟨_,rfl⟩
  rw [←hx] at hs hbad
  by_cases c2:x<0
  ·have d2:=decide_eq_true c2
   have hc:chk l=1:=by unfold chk;rw [if_neg c1,if_pos (hbad (decide_eq_false zO))]
   repeat (first|refine zR (ja4 iR hx.symm @d2 @hc) ?_|exact zU (ja4 iR hx.symm @d2 @hc))
  have d2:=decide_eq_false c2
  by_cases c3:15<x
  ·have d3:=decide_eq_true c3
   have hc:chk l=1:=by unfold chk;rw [if_neg c1,if_pos (hbad (decide_eq_false zO))]
   repeat (first|refine zR (ja5 iR hx.symm @d2 @d3 @hc) ?_|exact zU (ja5 iR hx.symm @d2 @d3 @hc))
  have d3:=decide_eq_false c3
  repeat (first|refine zR (ja4 iR hx.symm @d2 @d3) ?_|exact zU (ja4 iR hx.symm @d2 @d3))
  refine At.of (k+1) ⟨by omega,by rw [hs];exact decide_eq_true zO⟩ zO rfl rfl (Nat.le_refl _) ?_ ?_
  iterate 2 (case _=>(first|exact yT|refine yS ?_))
 ·simp only [decide_eq_false_iff_not] at h
  obtain rfl:k=l.length:=zO
  rw [List.take_length] at ha
  obtain ⟨hm,h15⟩:=ZoQ ha
  have ht:=Zjt nl (l.map Int.toNat) (by rw [List.length_map];exact hl) h15
  rw [←hm] at ht
  repeat (first|refine zS ?_|exact zT)
  refine Zaz _ (.inl ⟨by simp only [AV.free,AV.free.freeL,ZeT,Bool.and_self],ht⟩) ?_
  by_cases c4:32768<Zav (l.map Int.toNat)
  ·have d4:decide ((32768:Int)<(Zav (l.map Int.toNat):Nat))=true:=decide_eq_true zO
   have hc:chk l=3:=by unfold chk;rw [if_neg c1,if_neg (by rw [ha];simp),if_pos c4]
   repeat (first|refine zR (ja2 @d4 @hc) ?_|exact zU (ja2 @d4 @hc))
  ·have d4:decide ((32768:Int)<(Zav (l.map Int.toNat):Nat))=false:=decide_eq_false zO
   have hc:chk l=0:=by unfold chk;rw [if_neg c1,if_neg (by rw [ha];simp),if_neg c4]
   repeat (first|refine zR (ja2 @d4 @hc) ?_|exact zU (ja2 @d4 @hc))
theorem ZoR [Tabs Tryz.prog] (nl:Bool) (l:List Int) (hl:l.length≤1000):Con Tryz.prog Zdm [.sl nl none (l.map int)] (int (chk l:Nat)):=by
 refine Con.of' mix Tryz.func98 rfl Tryz.ntmps98 Zkg Zkh zB (by simp only [AV.free,AV.free.freeL,ZeT,Bool.and_self]) rfl ?_
 unfold ZfD
 by_cases c1:320<l.length
 ·have d1:decide ((320:Int)<(l.length:Int))=true:=decide_eq_true zO
  have hc:chk l=4:=if_pos c1
  repeat (first|refine zR (ja2 @d1 @hc) ?_|exact zU (ja2 @d1 @hc))
 have d1:decide ((320:Int)<(l.length:Int))=false:=decide_eq_false zO
 repeat (first|refine zR @d1 ?_|exact zU @d1)
 refine SWp.loop (α:=Nat) (fun k=>mk 28 0 [(0,.sl nl none (l.map int)),(3,int k)] [])
  (fun k=>k≤l.length∧(l.take k).all ZuD=true) (fun k=>l.length-k) 0 ⟨Nat.zero_le _,by simp⟩ (Zaj rfl ?_ ?_ ?_) ?_
 ·exact Nat.le_refl _
 iterate 2 (case _=>(first|exact yT|refine yS ?_))
 rintro k ⟨hk,ha⟩ -
 repeat (first|refine zS ?_|exact zT)
 refine SWp.cond rfl (fun h=>?_) (fun h=>?_)
 ·simp only [decide_eq_true_eq] at h
  have hkl:k<l.length:=zO
  have hs:=ZsK hkl ha
  have hbad:=Zvx (p:=ZuD) hkl
  obtain ⟨x,hx⟩:∃ x,x=l.getD k 0:=⟨_,rfl⟩
  rw [←hx] at hs hbad
  by_cases c2:x<0
  ·have d2:=decide_eq_true c2
   have hc:chk l=1:=by unfold chk;rw [if_neg c1,if_pos (hbad (decide_eq_false zO))]
   repeat (first|refine zR (ja4 iR hx.symm @d2 @hc) ?_|exact zU (ja4 iR hx.symm @d2 @hc))
  have d2:=decide_eq_false c2
  by_cases c3:15<x
  ·have d3:=decide_eq_true c3
   have hc:chk l=1:=by unfold chk;rw [if_neg c1,if_pos (hbad (decide_eq_false zO))]
   repeat (first|refine zR (ja5 iR hx.symm @d2 @d3 @hc) ?_|exact zU (ja5 iR hx.symm @d2 @d3 @hc))
  have d3:=decide_eq_false c3
  repeat (first|refine zR (ja4 iR hx.symm @d2 @d3) ?_|exact zU (ja4 iR hx.symm @d2 @d3))
  refine At.of (k+1) ⟨by omega,by rw [hs];exact decide_eq_true zO⟩ zO rfl rfl (Nat.le_refl _) ?_ ?_
  iterate 2 (case _=>(first|exact yT|refine yS ?_))
 ·simp only [decide_eq_false_iff_not] at h
  obtain rfl:k=l.length:=zO
  rw [List.take_length] at ha
  obtain ⟨hm,h15⟩:=ZoQ ha
  have ht:=ZoP nl (l.map Int.toNat) (by rw [List.length_map];exact hl) h15
  rw [←hm] at ht
  repeat (first|refine zS ?_|exact zT)
  refine Zaz _ (.inl ⟨by simp only [AV.free,AV.free.freeL,ZeT,Bool.and_self],ht⟩) ?_
  by_cases c4:32768<Zav (l.map Int.toNat)
  ·have d4:decide ((32768:Int)<(Zav (l.map Int.toNat):Nat))=true:=decide_eq_true zO
   have hc:chk l=3:=by unfold chk;rw [if_neg c1,if_neg (by rw [ha];simp),if_pos c4]
   repeat (first|refine zR (ja2 @d4 @hc) ?_|exact zU (ja2 @d4 @hc))
  ·have d4:decide ((32768:Int)<(Zav (l.map Int.toNat):Nat))=false:=decide_eq_false zO
   have hc:chk l=0:=by unfold chk;rw [if_neg c1,if_neg (by rw [ha];simp),if_neg c4]
   repeat (first|refine zR (ja2 @d4 @hc) ?_|exact zU (ja2 @d4 @hc))
theorem ZsL {l:List Int} (h:chk l=0):l.length≤320∧l.all ZuD=true∧Zav (l.map Int.toNat)≤32768:=by
 unfold chk at h
 split at h
 ·omega
 ·split at h
  ·omega
  ·rename_i h1 h2
   split at h
   ·omega
   ·exact ⟨by omega,by simpa using h2,by omega⟩
def Zl1 (l:List Int):Bool:=decide (chk l=0)&&decide (Zav (l.map Int.toNat)=32768)
theorem ZuE [Tabs Tryz.prog] (nl:Bool) (l:List Int) (hl:l.length≤1000):Con Tryz.prog Zgf [.sl nl none (l.map int)] (boo (Zl1 l)):=by
 refine Con.of' mix Tryz.func130 rfl Tryz.ntmps130 Zux Zuy zB (by simp only [AV.free,AV.free.freeL,ZeT,Bool.and_self]) rfl ?_
 unfold ZoK
 have hf:AV.free.freeL [.sl nl none (l.map int)]=true:=by simp only [AV.free,AV.free.freeL,ZeT,Bool.and_self]
 repeat (first|refine zS ?_|exact zT)
 refine Zaz _ (.inl ⟨hf,Zju nl l hl⟩) ?_
 by_cases c:chk l=0
 ·have d:decide (((chk l:Nat):Int)=0)=true:=decide_eq_true zO
  obtain ⟨h1,h2,h3⟩:=ZsL c
  obtain ⟨hm,h15⟩:=ZoQ h2
  have ht:=Zjt nl (l.map Int.toNat) (by rw [List.length_map];exact hl) h15
  rw [←hm] at ht
  have hb:Zl1 l=decide (Zav (l.map Int.toNat)=32768):=by simp [Zl1,c]
  have hd:decide (((Zav (l.map Int.toNat):Nat):Int)=32768)=decide (Zav (l.map Int.toNat)=32768):=decide_eq_decide.2 zO
  repeat (first|refine zR @d ?_|exact zU @d)
  refine Zaz _ (.inl ⟨hf,ht⟩) ?_
  repeat (first|refine zR (ja2 @hb @hd) ?_|exact zU (ja2 @hb @hd))
 ·have d:decide (((chk l:Nat):Int)=0)=false:=decide_eq_false zO
  have hb:Zl1 l=false:=by simp [Zl1,c]
  repeat (first|refine zR (ja2 @d @hb) ?_|exact zU (ja2 @d @hb))
theorem ZxX [Tabs Tryz.prog] (nl:Bool) (l:List Int) (hl:l.length≤1000):Con Tryz.prog ZbU [.sl nl none (l.map int)] (boo (Zl1 l)):=by
 refine Con.of' mix Tryz.func54 rfl Tryz.ntmps54 ZkR ZkS zB (by simp only [AV.free,AV.free.freeL,ZeT,Bool.and_self]) rfl ?_
 unfold Zgt
 have hf:AV.free.freeL [.sl nl none (l.map int)]=true:=by simp only [AV.free,AV.free.freeL,ZeT,Bool.and_self]
 repeat (first|refine zS ?_|exact zT)
 refine Zaz _ (.inl ⟨hf,ZoR nl l hl⟩) ?_
 by_cases c:chk l=0
 ·have d:decide (((chk l:Nat):Int)=0)=true:=decide_eq_true zO
  obtain ⟨h1,h2,h3⟩:=ZsL c
  obtain ⟨hm,h15⟩:=ZoQ h2
  have ht:=ZoP nl (l.map Int.toNat) (by rw [List.length_map];exact hl) h15
  rw [←hm] at ht
  have hb:Zl1 l=decide (Zav (l.map Int.toNat)=32768):=by simp [Zl1,c]
  have hd:decide (((Zav (l.map Int.toNat):Nat):Int)=32768)=decide (Zav (l.map Int.toNat)=32768):=decide_eq_decide.2 zO
  repeat (first|refine zR @d ?_|exact zU @d)
  refine Zaz _ (.inl ⟨hf,ht⟩) ?_
  repeat (first|refine zR (ja2 @hb @hd) ?_|exact zU (ja2 @hb @hd))
 ·have d:decide (((chk l:Nat):Int)=0)=false:=decide_eq_false zO
  have hb:Zl1 l=false:=by simp [Zl1,c]
  repeat (first|refine zR (ja2 @d @hb) ?_|exact zU (ja2 @d @hb))
def r16 (f:Nat→Nat):List Nat:=(List.range 16).map f
theorem ZaB {f:Nat→Nat}:(r16 f).length=16:=by simp [r16]
theorem Zrg {f:Nat→Nat} {k:Nat} (h:k<16):(r16 f).getD k 0=f k:=by simp [r16,List.getD,h]
theorem Zrh {f g:Nat→Nat} {k x:Nat} (h:∀ i,i<16→g i=if i=k then x else f i):(r16 f).set k x=r16 g:=by
 apply List.ext_getElem?
 intro i
 rw [List.getElem?_set,ZaB]
 by_cases hi:i<16
 ·have h1:(r16 f)[i]? = some (f i):=by simp [r16,hi]
  have h2:(r16 g)[i]? = some (g i):=by simp [r16,hi]
  rw [h1,h2,h i hi]
  by_cases e:k=i
  ·subst e;simp [hi]
  ·rw [if_neg e,if_neg (fun h=>e h.symm)]
 ·have h1:(r16 f)[i]? = none:=List.getElem?_eq_none (by rw [ZaB];omega)
  have h2:(r16 g)[i]? = none:=List.getElem?_eq_none (by rw [ZaB];omega)
  rw [h1,h2]
  split
  ·rename_i e;subst e;rw [if_neg hi]
  ·rfl
theorem Zl2 {f g:Nat→Nat} (h:∀ i,i<16→f i=g i):r16 f=r16 g:=List.map_congr_left fun i hi=>h i (List.mem_range.1 hi)
theorem ZfY {l:List Nat} {k n:Nat} (h:k<l.length):(l.take (k+1)).count n=(l.take k).count n+(if n=l.getD k 0 then 1 else 0):=by
 rw [ZgS (d:=0) h,List.count_append]
 congr 1
 by_cases e:n=l.getD k 0
 ·rw [if_pos e,←e];simp
 ·rw [if_neg e,List.count_singleton];simp;exact fun h=>e h.symm
theorem Zek {l:List Nat} {k n:Nat}:(l.take k).count n≤l.length:=Nat.le_trans List.count_le_length (by rw [List.length_take];omega)
def cn (l:List Nat) (n:Nat):Nat:=if n=0 then 0 else l.count n
def fr (l:List Nat):Nat→Nat
 | 0=>0
 | n+1=>2*(fr l n+cn l n)
theorem ZFy {l:List Nat} {n:Nat}:cn l n≤l.length:=by
 unfold cn;split
 ·omega
 ·exact List.count_le_length
theorem ZHp {l:List Nat} (hl:l.length≤320):∀ {n:Nat},fr l n+640≤640*2^n
 | 0=>by simp [fr]
 | n+1=>by
  have h1:=ZHp hl (n:=n)
  have h2:=ZFy (l:=l) (n:=n)
  simp only [fr,Nat.pow_succ];omega
theorem ZzZ {l:List Nat} (hl:l.length≤320) {n:Nat} (hn:n≤15):fr l n≤20971520:=by
 have h1:=ZHp hl (n:=n)
 have h2:2^n≤32768:=ZaR (n:=n) (m:=15) hn
 omega
theorem ZiU [Tabs Tryz.prog] (nl:Bool) (l:List Nat) (hl:l.length≤320) (h15:∀ x∈l,x≤15):Con Tryz.prog Zfk [.sl nl none (l.map nA)] (.agg ((r16 (fr l)).map nA)):=by
 refine Con.of' mix Tryz.func125 rfl Tryz.ntmps125 ZnK ZnL zB (by simp only [AV.free,AV.free.freeL,Zaa,Bool.and_self]) (by simp only [AV.free,Zaa]) ?_
 unfold ZiO
 obtain ⟨Z,hZ⟩:∃ Z,Z=r16 fun _=>0:=⟨_,rfl⟩
 have hZl:Z.length=16:=by rw [hZ,ZaB]
 have hz:(List.replicate 16 (Value.int .i64 0)).map AV.sc=Z.map nA:=by rw [hZ];rfl
 have hZd:Z.drop 16=[]:=List.drop_of_length_le zO
 repeat (first|refine xR @hz ?_|exact xU @hz)
 refine SWp.loop (α:=Nat) (fun k=>mk 37 2 [(2,.op 2 0 0),(3,.op 3 1 0),(8,.sl nl none (l.map nA)),(9,int l.length),(10,int k)] [(2,0,.row false (Z.map nA)),(3,1,.row false ((r16 fun n=>(l.take k).count n).map nA))])
  (fun k=>k≤l.length) (fun k=>l.length-k) 0 (Nat.zero_le _) (Zaj rfl ?_ ?_ ?_) ?_
 ·exact Nat.le_refl _
 iterate 2 (case _=>(first|exact vU (ja3 @List.take_zero.{0} @List.count_nil.{0} @hZ)|refine vR (ja3 @List.take_zero.{0} @List.count_nil.{0} @hZ) ?_))
 rintro k hk -
 repeat (first|refine xS ?_|exact xT)
 refine SWp.cond rfl (fun h=>?_) (fun h=>?_)
 ·simp only [decide_eq_true_eq] at h
  have hkl:k<l.length:=zO
  have hx15:l.getD k 0≤15:=by
   have:l.getD k 0=l[k]:=by simp [List.getD,List.getElem?_eq_getElem hkl]
   rw [this];exact h15 _ (List.getElem_mem hkl)
  have hcs:∀ n,(l.take (k+1)).count n=(l.take k).count n+(if n=l.getD k 0 then 1 else 0):=fun n=>ZfY hkl
  obtain ⟨x,hx⟩:∃ x,x=l.getD k 0:=⟨_,rfl⟩
  rw [←hx] at hx15 hcs
  have hg:=Zrg (f:=fun n=>(l.take k).count n) (k:=x) zO
  have hcl:=Zek (l:=l) (k:=k) (n:=x)
  have hset:=Zrh (f:=fun n=>(l.take k).count n) (g:=fun n=>(l.take (k+1)).count n) (k:=x) (x:=(l.take k).count x+1) (fun i hi=>by
   show (l.take (k+1)).count i=_
   rw [hcs]
   by_cases e:i=x
   ·subst e;simp
   ·simp [e])
  obtain ⟨S,hS⟩:∃ S,S=r16 fun n=>(l.take k).count n:=⟨_,rfl⟩
  have hSl:S.length=16:=by rw [hS,ZaB]
  obtain ⟨y,hy⟩:∃ y,y=(l.take k).count x:=⟨_,rfl⟩
  rw [←hS] at hset hg ⊢
  simp only [←hy] at hg hset hcl
  have hsp:=ZbJ (l:=S) (k:=x) (x:=y+1) zO
  rw [hset] at hsp
  repeat (first|refine xR (ja3 iR hx.symm @hg) ?_|exact xU (ja3 iR hx.symm @hg))
  refine At.of (k+1) zO zO rfl rfl (Nat.le_refl _) ?_ ?_
  ·(first|exact vT|refine vS ?_)
  ·(first|exact vT|refine vS ?_)
   exact hsp
 ·simp only [decide_eq_false_iff_not] at h
  obtain rfl:k=l.length:=zO
  rw [List.take_length]
  have hset:=Zrh (f:=fun n=>l.count n) (g:=cn l) (k:=0) (x:=0) (fun i hi=>rfl)
  obtain ⟨S0,hS0⟩:∃ S,S=r16 fun n=>l.count n:=⟨_,rfl⟩
  have hS0l:S0.length=16:=by rw [hS0,ZaB]
  rw [←hS0] at hset ⊢
  obtain ⟨S,hS⟩:∃ S,S=r16 (cn l):=⟨_,rfl⟩
  have hSl:S.length=16:=by rw [hS,ZaB]
  rw [←hS] at hset
  have hsp:=ZbJ (l:=S0) (k:=0) (x:=0) zO
  rw [hset] at hsp
  simp only [List.take_zero,List.map_nil,List.nil_append] at hsp
  have hsp':AV.sc (.int .i64 0)::(S0.drop 1).map nA=S.map nA:=hsp
  repeat (first|refine xR (ja3 iR @hz @hsp') ?_|exact xU (ja3 iR @hz @hsp'))
  refine SWp.loop (α:=Nat) (fun k=>mk 37 3 [(2,.op 2 0 0),(3,.op 3 1 0),(6,.op 6 2 0),(21,int k)] [(2,0,.row false (Z.map nA)),(3,1,.row false (S.map nA)),(6,2,.row false ((r16 fun n=>if n≤k then fr l n else 0).map nA))])
   (fun k=>k≤15) (fun k=>15-k) 0 (Nat.zero_le _) (Zaj rfl ?_ ?_ ?_) ?_
  ·exact Nat.le_refl _
  ·(first|exact vT|refine vS ?_)
  ·(first|exact vT|refine vS ?_)
   rw [hZ]
   exact congrArg (List.map nA) (Zl2 fun i _=>by
    by_cases e:i≤0
    ·obtain rfl:i=0:=zO
     rfl
    ·rw [if_neg e])
  rintro k hk -
  repeat (first|refine xS ?_|exact xT)
  refine SWp.cond rfl (fun h=>?_) (fun h=>?_)
  ·simp only [decide_eq_true_eq] at h
   have hk15:k<15:=zO
   have hg:=Zrg (f:=fun n=>if n≤k then fr l n else 0) (k:=k) zO
   rw [if_pos (Nat.le_refl _)] at hg
   have hgs:S.getD k 0=cn l k:=by rw [hS];exact Zrg zO
   have hfl:=ZzZ hl (n:=k) zO
   have hcl:=ZFy (l:=l) (n:=k)
   have hset:=Zrh (f:=fun n=>if n≤k then fr l n else 0) (g:=fun n=>if n≤k+1 then fr l n else 0) (k:=k+1) (x:=(fr l k+cn l k)*2) (fun i hi=>by
    show (if i≤k+1 then fr l i else 0)=if i=k+1 then _ else if i≤k then fr l i else 0
    by_cases e:i=k+1
    ·subst e;rw [if_pos (Nat.le_refl _),if_pos rfl,fr,Nat.mul_comm]
    ·rw [if_neg e]
     by_cases e2:i≤k
     ·rw [if_pos e2,if_pos zO]
     ·rw [if_neg e2,if_neg zO])
   obtain ⟨G,hG⟩:∃ G,G=r16 fun n=>if n≤k then fr l n else 0:=⟨_,rfl⟩
   have hGl:G.length=16:=by rw [hG,ZaB]
   obtain ⟨x,hx⟩:∃ x,x=fr l k:=⟨_,rfl⟩
   obtain ⟨y,hy⟩:∃ y,y=cn l k:=⟨_,rfl⟩
   rw [←hx] at hg hfl hset
   rw [←hy] at hgs hcl hset
   rw [←hG] at hset hg ⊢
   have hsp:=ZbJ (l:=G) (k:=k+1) (x:=(x+y)*2) zO
   rw [hset] at hsp
   repeat (first|refine xR (ja3 iR @hg @hgs) ?_|exact xU (ja3 iR @hg @hgs))
   refine At.of (k+1) zO zO rfl rfl (Nat.le_refl _) ?_ ?_
   ·(first|exact vT|refine vS ?_)
   ·(first|exact vT|refine vS ?_)
    exact hsp
  ·simp only [decide_eq_false_iff_not] at h
   obtain rfl:k=15:=zO
   have hr:(r16 fun n=>if n≤15 then fr l n else 0)=r16 (fr l):=Zl2 fun i hi=>if_pos zO
   rw [hr]
   obtain ⟨F,hF⟩:∃ F,F=r16 (fr l):=⟨_,rfl⟩
   have hFl:F.length=16:=by rw [hF,ZaB]
   rw [←hF]
   repeat (first|refine xR (ja3 iR @hFl @hZd) ?_|exact xU (ja3 iR @hFl @hZd))
def ZaZ (l:List Nat) (i:Nat):Nat:=if l.getD i 0=0 then 0 else fr l (l.getD i 0)+(l.take i).count (l.getD i 0)
def Za2 (l:List Nat):List Nat:=(List.range l.length).map (ZaZ l)
theorem Zel {l:List Nat}:(Za2 l).length=l.length:=by simp [Za2]
theorem ZsM {n:Nat}:(List.replicate n [AV.sc (.int .i64 0)]).flatten=(List.replicate n 0).map nA:=by
 induction n with
 | zero=>rfl
 | succ n ih=>simp only [List.replicate_succ,List.flatten_cons,ih,List.map_cons];rfl
def ZeH (l:List Nat) (k:Nat):List Nat:=(List.range l.length).map fun i=>if i<k then ZaZ l i else 0
theorem Zem {l:List Nat} {k:Nat}:(ZeH l k).length=l.length:=by simp [ZeH]
theorem ZuF {l:List Nat}:ZeH l 0=List.replicate l.length 0:=by
 apply List.ext_getElem?
 intro i
 by_cases h:i<l.length
 ·simp [ZeH,h]
 ·rw [List.getElem?_eq_none (by rw [Zem];omega),List.getElem?_eq_none (by simp;omega)]
theorem ZxY {l:List Nat}:ZeH l l.length=Za2 l:=List.map_congr_left fun i hi=>by rw [if_pos (List.mem_range.1 hi)]
theorem ZxZ {l:List Nat} {k:Nat} (h:k<l.length):(ZeH l k).set k (ZaZ l k)=ZeH l (k+1):=by
 apply List.ext_getElem?
 intro i
 rw [List.getElem?_set,Zem]
 by_cases hi:i<l.length
 ·have h1:(ZeH l k)[i]? = some (if i<k then ZaZ l i else 0):=by simp [ZeH,hi]
  have h2:(ZeH l (k+1))[i]? = some (if i<k+1 then ZaZ l i else 0):=by simp [ZeH,hi]
  rw [h1,h2]
  by_cases e:k=i
  ·subst e;simp [h]
  ·rw [if_neg e]
   by_cases e2:i<k
   ·rw [if_pos e2,if_pos zO]
   ·rw [if_neg e2,if_neg zO]
 ·have h1:(ZeH l k)[i]? = none:=List.getElem?_eq_none (by rw [Zem];omega)
  have h2:(ZeH l (k+1))[i]? = none:=List.getElem?_eq_none (by rw [Zem];omega)
  rw [h1,h2,if_neg zO]
theorem ZuG {l:List Nat} {k:Nat} (h:k<l.length) (h0:l.getD k 0=0):ZeH l (k+1)=ZeH l k:=by
 refine List.map_congr_left fun i hi=>?_
 by_cases e:i=k
 ·subst e;rw [if_pos zO,if_neg zO,ZaZ,if_pos h0]
 ·by_cases e2:i<k
  ·rw [if_pos e2,if_pos zO]
  ·rw [if_neg e2,if_neg zO]
def nxK (l:List Nat) (k:Nat) (n:Nat):Nat:=if n=0 then 0 else fr l n+(l.take k).count n
def st (l:List Nat) (n k:Nat):List Nat:=(List.range l.length).map fun i=>if l.getD i 0<n∨(l.getD i 0=n∧i<k) then ZaZ l i else l.getD i 0
theorem ZhZ {l:List Nat} {n k:Nat}:(st l n k).length=l.length:=by simp [st]
theorem Zz0 {l:List Nat}:st l 0 0=l:=by
 apply List.ext_getElem?
 intro i
 by_cases h:i<l.length
 ·simp [st,h,List.getD]
 ·rw [List.getElem?_eq_none (by rw [ZhZ];omega),List.getElem?_eq_none zO]
theorem ZFz {l:List Nat} {n:Nat}:st l n l.length=st l (n+1) 0:=by
 refine List.map_congr_left fun i hi=>?_
 have:=List.mem_range.1 hi
 by_cases e:l.getD i 0<n∨(l.getD i 0=n∧i<l.length)
 ·rw [if_pos e,if_pos zO]
 ·rw [if_neg e,if_neg zO]
theorem ZHq {l:List Nat} (h15:∀ x∈l,x≤15):st l 16 0=Za2 l:=by
 refine List.map_congr_left fun i hi=>?_
 have hi:=List.mem_range.1 hi
 have:l.getD i 0=l[i]:=by simp [List.getD,List.getElem?_eq_getElem hi]
 have:=h15 _ (List.getElem_mem hi)
 rw [if_pos zO]
theorem ZFA {l:List Nat} {n k:Nat} (h:l.getD k 0≠n):st l n (k+1)=st l n k:=by
 refine List.map_congr_left fun i hi=>?_
 by_cases e:i=k
 ·subst e
  by_cases e2:l.getD i 0<n
  ·rw [if_pos zO,if_pos zO]
  ·rw [if_neg zO,if_neg zO]
 ·by_cases e2:l.getD i 0<n∨(l.getD i 0=n∧i<k)
  ·rw [if_pos zO,if_pos e2]
  ·rw [if_neg zO,if_neg e2]
theorem ZHr {l:List Nat} {n k:Nat} (hk:k<l.length) (h:l.getD k 0=n):(st l n k).set k (ZaZ l k)=st l n (k+1):=by
 apply List.ext_getElem?
 intro i
 rw [List.getElem?_set,ZhZ]
 by_cases hi:i<l.length
 ·have h1:(st l n k)[i]? = some (if l.getD i 0<n∨(l.getD i 0=n∧i<k) then ZaZ l i else l.getD i 0):=by simp [st,hi]
  have h2:(st l n (k+1))[i]? = some (if l.getD i 0<n∨(l.getD i 0=n∧i<k+1) then ZaZ l i else l.getD i 0):=by simp [st,hi]
  rw [h1,h2]
  by_cases e:k=i
  ·subst e;rw [if_pos rfl,if_pos hk,if_pos zO]
  ·rw [if_neg e]
   by_cases e2:l.getD i 0<n∨(l.getD i 0=n∧i<k)
   ·rw [if_pos e2,if_pos zO]
   ·rw [if_neg e2,if_neg zO]
 ·have h1:(st l n k)[i]? = none:=List.getElem?_eq_none (by rw [ZhZ];omega)
  have h2:(st l n (k+1))[i]? = none:=List.getElem?_eq_none (by rw [ZhZ];omega)
  rw [h1,h2,if_neg zO]
theorem ZuH [Tabs Tryz.prog] (nl:Bool) (li:List Int) (hc:chk li=0) (l:List Nat) (hli:l=li.map Int.toNat):Con Tryz.prog Zdn [.sl nl none (li.map int)] (.tup [.sl l.isEmpty none ((Za2 l).map nA),int 0]):=by
 obtain ⟨hlen,ha,hK⟩:=ZsL hc
 obtain ⟨hm,h15⟩:=ZoQ ha
 rw [←hli] at hm h15 hK
 have hl:l.length≤320:=by rw [hli,List.length_map];exact hlen
 have hchk:=ZoR nl li zO
 rw [hm,hc] at hchk
 rw [hm]
 clear hm ha hc
 refine Con.of' mix Tryz.func53 rfl Tryz.ntmps53 Zkc Zkd zB (by simp only [AV.free,AV.free.freeL,Zaa,Bool.and_self]) (by simp only [AV.free,AV.free.freeL,Zaa,int,Bool.and_self]) ?_
 unfold ZfB
 have hf:AV.free.freeL [.sl nl none (l.map nA)]=true:=by simp only [AV.free,AV.free.freeL,Zaa,Bool.and_self]
 obtain ⟨em,hem⟩:∃ em,em=l.isEmpty:=⟨_,rfl⟩
 have hem2:(l.map nA).isEmpty=em:=by rw [hem];cases l <;> rfl
 rw [←hem]
 repeat (first|refine xS ?_|exact xT)
 refine Zaz _ (.inl ⟨hf,hchk⟩) ?_
 repeat (first|refine xR (ja2 iR @hem2) ?_|exact xU (ja2 iR @hem2))
 refine SWp.loop (α:=Nat) (fun n=>mk 47 1 [(0,.sl nl none (l.map nA)),(5,.own 16 0 none 0 l.length),(6,int (fr l n:Nat)),(7,int n)] [(16,0,.row em ((st l n 0).map nA))])
  (fun n=>n≤16) (fun n=>16-n) 0 (Nat.zero_le _) (Zaj rfl ?_ ?_ ?_) ?_
 ·exact Nat.le_refl _
 iterate 2 (case _=>(first|exact vU (ja2 @fr.eq_1 @Zz0)|refine vR (ja2 @fr.eq_1 @Zz0) ?_))
 rintro n hn -
 repeat (first|refine xS ?_|exact xT)
 refine SWp.cond rfl (fun h=>?_) (fun h=>?_)
 ·simp only [decide_eq_true_eq] at h
  have hn15:n≤15:=zO
  have hfl:=ZzZ hl (n:=n) hn15
  repeat (first|refine xS ?_|exact xT)
  refine SWp.loop (α:=Nat) (fun k=>mk 47 1 [(0,.sl nl none (l.map nA)),(5,.own 16 0 none 0 l.length),(6,int (nxK l k n:Nat)),(7,int n),(8,int k)] [(16,0,.row em ((st l n k).map nA))])
   (fun k=>k≤l.length) (fun k=>l.length-k) 0 (Nat.zero_le _) (Zaj rfl ?_ ?_ ?_) ?_
  ·exact Nat.le_refl _
  ·(first|exact vT|refine vS ?_)
   have:nxK l 0 n=fr l n:=by
    unfold nxK
    by_cases e:n=0
    ·subst e;rfl
    ·rw [if_neg e];simp
   rw [this]
  ·(first|exact vT|refine vS ?_)
  rintro k hk -
  have hcl:=Zek (l:=l) (k:=k) (n:=n)
  have hyl:nxK l k n≤20971840:=by
   unfold nxK
   split
   ·omega
   ·omega
  repeat (first|refine xS ?_|exact xT)
  refine SWp.cond rfl (fun h=>?_) (fun h=>?_)
  ·simp only [decide_eq_true_eq] at h
   have hkl:k<l.length:=zO
   have hcs:=ZfY (n:=n) hkl
   have hsm:=ZFA (l:=l) (n:=n) (k:=k)
   have hst:=ZHr (n:=n) hkl
   have hcd:l.getD k 0=n→ZaZ l k=nxK l k n:=fun h=>by unfold ZaZ nxK;rw [h]
   obtain ⟨x,hx⟩:∃ x,x=l.getD k 0:=⟨_,rfl⟩
   rw [←hx] at hcs hsm hst hcd
   obtain ⟨C,hC⟩:∃ C,C=st l n k:=⟨_,rfl⟩
   have hCl:C.length=l.length:=by rw [hC,ZhZ]
   rw [←hC] at hst hsm ⊢
   by_cases c0:x=n
   ·have d0:decide ((x:Int)=(n:Int))=true:=decide_eq_true zO
    have hst:=hst c0
    rw [hcd c0] at hst
    by_cases cn:n=0
    ·have dn:decide ((0:Int)<(n:Int))=false:=decide_eq_false zO
     have hy0:nxK l k n=0:=by unfold nxK;rw [if_pos cn]
     have hy1:nxK l (k+1) n=0:=by unfold nxK;rw [if_pos cn]
     rw [hy0] at hst ⊢
     have hsp:=ZbJ (l:=C) (k:=k) (x:=0) zO
     rw [hst] at hsp
     have hCl2:(st l n (k+1)).length=l.length:=ZhZ
     have hss:(st l n (k+1)).set k 0=st l n (k+1):=by rw [←hst,List.set_set]
     have hsp2:=ZbJ (l:=st l n (k+1)) (k:=k) (x:=0) zO
     rw [hss] at hsp2
     have hsp':(C.take k).map nA++AV.sc (.int .i64 0)::(C.drop (k+1)).map nA=(st l n (k+1)).map nA:=hsp
     repeat (first|refine xR (ja5 iR hx.symm @d0 @dn @hsp') ?_|exact xU (ja5 iR hx.symm @d0 @dn @hsp'))
     refine At.of (k+1) zO zO rfl rfl (Nat.le_refl _) ?_ ?_
     ·(first|exact vU @hy1|refine vR @hy1 ?_)
     ·(first|exact vT|refine vS ?_)
      exact hsp2
    ·have dn:decide ((0:Int)<(n:Int))=true:=decide_eq_true zO
     have hy1:nxK l (k+1) n=nxK l k n+1:=by unfold nxK;rw [if_neg cn,if_neg cn,hcs,if_pos c0.symm];omega
     obtain ⟨y,hy⟩:∃ y,y=nxK l k n:=⟨_,rfl⟩
     rw [←hy] at hst hyl hy1 ⊢
     have hsp:=ZbJ (l:=C) (k:=k) (x:=y) zO
     rw [hst] at hsp
     repeat (first|refine xR (ja4 iR hx.symm @d0 @dn) ?_|exact xU (ja4 iR hx.symm @d0 @dn))
     refine At.of (k+1) zO zO rfl rfl (Nat.le_refl _) ?_ ?_
     ·(first|exact vU @hy1|refine vR @hy1 ?_)
     ·(first|exact vT|refine vS ?_)
      exact hsp
   ·have d0:decide ((x:Int)=(n:Int))=false:=decide_eq_false zO
    have hsm:=hsm c0
    have hy1:nxK l (k+1) n=nxK l k n:=by
     unfold nxK
     split
     ·rfl
     ·rw [hcs,if_neg (fun h=>c0 h.symm)];rfl
    repeat (first|refine xR (ja3 iR hx.symm @d0) ?_|exact xU (ja3 iR hx.symm @d0))
    refine At.of (k+1) zO zO rfl rfl (Nat.le_refl _) ?_ ?_
    iterate 2 (case _=>(first|exact vU (ja2 @hy1 @hsm)|refine vR (ja2 @hy1 @hsm) ?_))
  ·simp only [decide_eq_false_iff_not] at h
   obtain rfl:k=l.length:=zO
   have hfn:nxK l l.length n*2=fr l (n+1):=by
    unfold nxK
    by_cases e:n=0
    ·subst e;rfl
    ·rw [if_neg e,List.take_length,fr,cn,if_neg e,Nat.mul_comm]
   have hst:=ZFz (l:=l) (n:=n)
   rw [hst]
   obtain ⟨y,hy⟩:∃ y,y=nxK l l.length n:=⟨_,rfl⟩
   rw [←hy] at hfn hyl ⊢
   repeat (first|refine xS ?_|exact xT)
   refine At.of (n+1) zO zO rfl rfl (Nat.le_refl _) ?_ ?_
   ·(first|exact vU hfn.symm|refine vR hfn.symm ?_)
    omega
   ·(first|exact vT|refine vS ?_)
 ·simp only [decide_eq_false_iff_not] at h
  obtain rfl:n=16:=zO
  rw [ZHq h15]
  have hlc:=Zel (l:=l)
  repeat (first|refine xR iR ?_|exact xU iR)
def Zer (l:List Nat) (k n:Nat):List Nat:=if n=0 then [] else (List.range k).filter fun s=>decide (l.getD s 0=n)
theorem Zfc {l:List Nat} {k n:Nat} (hn:n≠0):Zer l (k+1) n=if l.getD k 0=n then Zer l k n++[k] else Zer l k n:=by
 unfold Zer
 rw [if_neg hn,if_neg hn,List.range_succ,List.filter_append]
 by_cases e:l.getD k 0=n
 ·rw [if_pos e,List.filter_cons,decide_eq_true e];rfl
 ·rw [if_neg e,List.filter_cons,decide_eq_false e];simp
theorem ZeW {l:List Nat}:∀ {k n:Nat},k≤l.length→(Zer l k n).length=if n=0 then 0 else (l.take k).count n
 | 0,n,_=>by unfold Zer;split <;> simp
 | k+1,n,h=>by
  have ih:=ZeW (l:=l) (k:=k) (n:=n) zO
  by_cases hn:n=0
  ·subst hn;rfl
  ·rw [if_neg hn] at ih ⊢
   rw [Zfc hn,ZfY zO]
   by_cases e:l.getD k 0=n
   ·rw [if_pos e,if_pos e.symm,List.length_append,ih];rfl
   ·rw [if_neg e,if_neg (fun h=>e h.symm),ih];rfl
theorem ZpK {l:List Nat} {k n:Nat} (h:k≤l.length):(Zer l k n).length≤l.length:=by
 rw [ZeW h]
 split
 ·omega
 ·exact Zek
def trR (l:List Nat):List AV:=(r16 (fr l)).map nA++(List.range 16).map (fun n=>AV.sl (nl0 (Zer l l.length n).length) none ((Zer l l.length n).map nA))++[.sc (.int .i64 (Zav l:Nat))]
def trC (l:List Nat) (k:Nat) (gs:Nat→Nat):List AV:=(r16 (fr l)).map nA++Zvw 200 16 gs (fun n=>(Zer l k n).length)++[.sc (.int .i64 (Zav l:Nat))]
def trH (l:List Nat) (k:Nat) (gs:Nat→Nat):Hp:=fun i=>if i=18 then some (0,.row false (trC l k gs)) else if 200≤i∧i<216 then some (gs (i-200),.row (nl0 (Zer l k (i-200)).length) ((Zer l k (i-200)).map nA)) else none
theorem Zz1 {l:List Nat} {k:Nat} {gs:Nat→Nat}:trH l k gs 18=some (0,.row false (trC l k gs)):=by simp [trH]
theorem ZuI {l:List Nat} {k x:Nat} {gs:Nat→Nat} (h:x<16):trH l k gs (200+x)=some (gs x,.row (nl0 (Zer l k x).length) ((Zer l k x).map nA)):=by
 simp only [trH]
 rw [if_neg zO,if_pos zO,show 200+x-200=x by omega]
theorem ZmX {l:List Nat} {k:Nat} {gs:Nat→Nat}:(trC l k gs).length=33:=by simp [trC,ZaB,ZbI]
theorem Zz2 {l:List Nat} {k x:Nat} {gs:Nat→Nat} (h:x<16):(trC l k gs).getD (16+x) .junk = .own (200+x) (gs x) none 0 (Zer l k x).length:=by
 unfold trC
 simp only [List.getD]
 rw [List.getElem?_append_left (by simp [ZaB,ZbI];omega),List.getElem?_append_right (by simp [ZaB])]
 simp only [List.length_map,ZaB,show 16+x-16=x by omega]
 rw [Zrb h];rfl
theorem ZFB {l:List Nat} {k x c:Nat} {gs:Nat→Nat} (hx:x<16) (hx0:x≠0) (hk:l.getD k 0=x) :
  (trC l k gs).take (16+x)++AV.own (200+x) c none 0 ((Zer l k x).length+1)::(trC l k gs).drop (16+x+1)=trC l (k+1) (fun j=>if j=x then c else gs j):=by
 have h:=List.set_eq_take_append_cons_drop (l:=trC l k gs) (i:=16+x) (a:=AV.own (200+x) c none 0 ((Zer l k x).length+1))
 rw [if_pos (by rw [ZmX];omega)] at h
 rw [←h]
 unfold trC
 rw [List.set_append_left _ _ (by simp [ZaB,ZbI];omega),List.set_append_right _ _ (by simp [ZaB])]
 congr 2
 simp only [List.length_map,ZaB,show 16+x-16=x by omega]
 apply List.ext_getElem?
 intro i
 rw [List.getElem?_set,ZbI]
 by_cases hi:i<16
 ·rw [Zrb hi,Zrb hi]
  by_cases e:x=i
  ·subst e
   rw [if_pos rfl,if_pos hi,if_pos rfl,Zfc hx0,if_pos hk,List.length_append];rfl
  ·rw [if_neg e,if_neg (fun h=>e h.symm)]
   by_cases i0:i=0
   ·subst i0;rfl
   ·rw [Zfc i0,if_neg zO]
 ·rw [List.getElem?_eq_none (by rw [ZbI];omega),List.getElem?_eq_none (by rw [ZbI];omega),if_neg zO]
theorem Zz3 {l:List Nat} {k n:Nat} (hk:l.getD k 0=0):Zer l (k+1) n=Zer l k n:=by
 by_cases h:n=0
 ·subst h;rfl
 ·rw [Zfc h,if_neg zO]
theorem ZC7 {l:List Nat} {k:Nat} {gs:Nat→Nat} (hk:l.getD k 0=0):trH l (k+1) gs=trH l k gs:=by
 funext i
 simp only [trH,trC,Zz3 hk]
theorem ZC8 {l:List Nat} {k x c:Nat} {gs:Nat→Nat} (hx:x<16) (hx0:x≠0) (hk:l.getD k 0=x) {cs:List AV} (hcs:cs=trC l (k+1) (fun j=>if j=x then c else gs j)) :
  ZbA (ZbA (trH l k gs) (200+x) (some (c,.row false ((Zer l k x).map nA++[.sc (.int .i64 (k:Int))])))) 18 (some (0,.row false cs))=trH l (k+1) (fun j=>if j=x then c else gs j):=by
 funext i
 simp only [ZbA,trH]
 by_cases e1:i=18
 ·simp only [if_pos e1,hcs]
 ·simp only [if_neg e1]
  by_cases e2:i=200+x
  ·rw [if_pos e2,if_pos zO,show i-200=x by omega,if_pos rfl,Zfc hx0,if_pos hk]
   simp only [List.map_append,List.map_cons,List.map_nil,List.length_append,List.length_singleton,Zbi]
   rfl
  ·rw [if_neg e2]
   by_cases e3:200≤i∧i<216
   ·rw [if_pos e3,if_pos e3,if_neg zO]
    by_cases i0:i-200=0
    ·rw [i0];rfl
    ·rw [Zfc i0,if_neg zO]
   ·rw [if_neg e3,if_neg e3]
theorem Zvy {st:ASt} {l:List (Nat × AV)} {H:Hp} {gc N:Nat} (hN:N=st.N) (hgc:st.gc≤gc) (hl:AllTm st.tm l) (hh:st.hp=H):Le st ⟨Zvs l,H,gc,N⟩:=by
 have:=Zaj (st:=st) (gc:=gc) (h:=[]) hN hgc hl trivial
 exact ⟨this.tm,fun id=>.inl (by rw [←hh]),hgc,hN⟩
theorem ZpL [Tabs Tryz.prog] (nl:Bool) (li:List Int) (hc:chk li=0) (l:List Nat) (hli:l=li.map Int.toNat):Con Tryz.prog Zcc [.sl nl none (li.map int)] (.tup [.fp (.agg (trR l)) 0,int 0]):=by
 obtain ⟨hlen,ha,hK⟩:=ZsL hc
 obtain ⟨hm,h15⟩:=ZoQ ha
 rw [←hli] at hm h15 hK
 have hl:l.length≤320:=by rw [hli,List.length_map];exact hlen
 have hchk:=Zju nl li zO
 rw [hm,hc] at hchk
 rw [hm]
 clear hm ha hc
 have hfT:AV.free.freeL (trR l)=true:=by
  unfold trR
  rw [Zii,Zii,Zaa]
  have:AV.free.freeL ((List.range 16).map (fun n=>AV.sl (nl0 (Zer l l.length n).length) none ((Zer l l.length n).map nA)))=true:=ZbB.2 fun x hx=>by
   obtain ⟨n,_,rfl⟩:=List.mem_map.1 hx
   simp only [AV.free,Zaa]
  rw [this];rfl
 refine Con.of' mix Tryz.func89 rfl Tryz.ntmps89 ZpC ZpD zB (by simp only [AV.free,AV.free.freeL,Zaa,Bool.and_self]) (by simp only [AV.free,AV.free.freeL,hfT,int,Bool.and_self]) ?_
 unfold ZkC
 have hf:AV.free.freeL [.sl nl none (l.map nA)]=true:=by simp only [AV.free,AV.free.freeL,Zaa,Bool.and_self]
 have hfr:=ZiU nl l hl h15
 have htk:=Zjt nl l zO h15
 obtain ⟨F,hF⟩:∃ F,F=r16 (fr l):=⟨_,rfl⟩
 have hFl:F.length=16:=by rw [hF,ZaB]
 have hFm:(F.map nA).length=16:=by rw [List.length_map,hFl]
 rw [←hF] at hfr
 obtain ⟨K,hKd⟩:∃ K,K=Zav l:=⟨_,rfl⟩
 rw [←hKd] at htk
 have ht1:∀ (x y:AV) (r:List AV),List.take 32 (F.map nA++(x::y::r))=F.map nA++List.take 16 (x::y::r):=fun x y r=>by rw [List.take_append,hFm,List.take_of_length_le zO]
 have ht2:∀ (x y:AV) (r:List AV),List.drop 33 (F.map nA++(x::y::r))=List.drop 17 (x::y::r):=fun x y r=>by rw [List.drop_append,hFm,List.drop_of_length_le zO];rfl
 repeat (first|refine xS ?_|exact xT)
 refine Zaz _ (.inl ⟨hf,hchk⟩) ?_
 repeat (first|refine xS ?_|exact xT)
 refine Zaz _ (.inl ⟨hf,hfr⟩) ?_
 repeat (first|refine xS ?_|exact xT)
 refine Zaz _ (.inl ⟨hf,htk⟩) ?_
 repeat (first|refine xR (ja3 @hFl @ht1 @ht2) ?_|exact xU (ja3 @hFl @ht1 @ht2))
 refine SWp.le (Zaj (N:=44) (gc:=1) (l:=[(5,.op 18 0 0),(19,.sl nl none (l.map nA)),(20,int l.length),(21,int 0)]) (h:=[(18,0,.row false (F.map nA++List.replicate 16 (AV.sc (.slice none 0 0))++[.sc (.int .i64 (K:Int))]))]) rfl ?_ ?_ ?_) ?_
 iterate 2 (case _=>(first|exact vT|refine vS ?_))
 ·(first|exact vT|refine vS ?_)
  rfl
 refine SWp.adoptN 18 0 200 16 (nl:=false) (pre:=F.map nA) (post:=[.sc (.int .i64 (K:Int))]) zO vT ?_
 refine SWp.loop (α:=Nat × (Nat→Nat) × Nat) (fun x=>⟨Zvs [(5,.op 18 0 0),(19,.sl nl none (l.map nA)),(20,int l.length),(21,int x.1)],trH l x.1 x.2.1,x.2.2,44⟩)
  (fun x=>x.1≤l.length) (fun x=>l.length-x.1) (0,fun j=>1+j,17) (Nat.zero_le _) (Zvy rfl ?_ ?_ ?_) ?_
 ·exact Nat.le_refl _
 ·(first|exact vT|refine vS ?_)
 ·funext i
  simp only [adH,trH,trC,←hF,←hKd,ZGM,Zdj]
  by_cases e1:i=18
  ·rw [if_pos e1,if_pos e1]
   simp [Zvw,Zer]
  ·simp only [if_neg e1]
   by_cases e2:200≤i∧i<216
   ·rw [if_pos zO,if_pos e2]
    simp [Zer,nl0]
   ·rw [if_neg zO,if_neg e2]
 rintro ⟨k,gs,c⟩ hk -
 simp only at hk
 repeat (first|refine xS ?_|exact xT)
 refine SWp.cond rfl (fun h=>?_) (fun h=>?_)
 ·simp only [decide_eq_true_eq] at h
  have hkl:k<l.length:=zO
  have hx15:l.getD k 0≤15:=by
   have:l.getD k 0=l[k]:=by simp [List.getD,List.getElem?_eq_getElem hkl]
   rw [this];exact h15 _ (List.getElem_mem hkl)
  obtain ⟨x,hx⟩:∃ x,x=l.getD k 0:=⟨_,rfl⟩
  rw [←hx] at hx15
  by_cases c0:x=0
  ·subst c0
   repeat (first|refine xR (ja2 iR hx.symm) ?_|exact xU (ja2 iR hx.symm))
   refine ⟨(k+1,gs,c),by simp only;omega,by simp only;omega,Zvy rfl (Nat.le_refl _) ?_ ?_⟩
   ·(first|exact vT|refine vS ?_)
   ·exact (ZC7 hx.symm).symm
  ·have d0:decide ((0:Int)<(x:Int))=true:=decide_eq_true zO
   have hsl:=ZpK (l:=l) (k:=k) (n:=x) hk
   have hcs:=ZFB (c:=c) (gs:=gs) zO c0 hx.symm
   repeat (first|refine xR (ja8 iR hx.symm @d0 @Zz1 @ZuI @Zz2 @ZmX @Nat.mul_one) ?_|exact xU (ja8 iR hx.symm @d0 @Zz1 @ZuI @Zz2 @ZmX @Nat.mul_one))
   refine ⟨(k+1,fun j=>if j=x then c else gs j,c+1),by simp only;omega,by simp only;omega,Zvy rfl (Nat.le_refl _) ?_ ?_⟩
   ·(first|exact vT|refine vS ?_)
   ·exact ZC8 zO c0 hx.symm hcs
 ·simp only [decide_eq_false_iff_not] at h
  obtain rfl:k=l.length:=zO
  refine SWp.le (st':=⟨Zvs [(5,.op 18 0 0)],trH l l.length gs,c,44⟩) (Zvy rfl (Nat.le_refl _) ?_ rfl) ?_
  ·(first|exact vT|refine vS ?_)
  refine SWp.frzN 18 0 200 16 (nl:=false) (pre:=(r16 (fr l)).map nA) (post:=[.sc (.int .i64 (Zav l:Nat))]) (gs:=gs) (ls:=fun n=>nl0 (Zer l l.length n).length) (xs:=fun n=>(Zer l l.length n).map nA) zO ?_ ?_ (fun _ _=>Zaa) Zaa rfl ?_ ?_
  ·rw [Zz1]
   simp only [trC,Zvw,ZGt,Nat.not_lt_zero,if_false,List.length_map]
  ·intro i hi
   exact ZuI hi
  ·intro t i hi
   by_cases e:t=5
   ·subst e
    show fzo _ _ _ _ (.op 18 0 0) = .op 18 0 0
    rw [ZD1,if_neg zO]
   ·have:Zvs [(5,AV.op 18 0 0)] t = .junk:=by simp only [Zvs];rw [if_neg e]
    rw [this];rfl
  have hm:(r16 (fr l)).map nA++ZGt 200 16 16 gs (fun n=>nl0 (Zer l l.length n).length) (fun n=>(Zer l l.length n).map nA)++[.sc (.int .i64 (Zav l:Nat))]=trR l:=by
   unfold trR
   have:ZGt 200 16 16 gs (fun n=>nl0 (Zer l l.length n).length) (fun n=>(Zer l l.length n).map nA)=(List.range 16).map (fun n=>AV.sl (nl0 (Zer l l.length n).length) none ((Zer l l.length n).map nA)):=List.map_congr_left fun i hi=>by rw [if_pos (List.mem_range.1 hi)]
   rw [this]
  have hH:ZzT 18 0 200 16 16 gs (fun n=>nl0 (Zer l l.length n).length) (fun n=>(Zer l l.length n).map nA) false ((r16 (fr l)).map nA) [.sc (.int .i64 (Zav l:Nat))] 18=some (0,.row false (trR l)):=by
   unfold ZzT;rw [if_pos rfl,hm]
  refine SWp.le (Zaj (N:=44) (gc:=c) (l:=[(5,.op 18 0 0)]) (h:=[(18,0,.row false (trR l))]) rfl (Nat.le_refl _) ?_ ?_) ?_
  iterate 2 (case _=>(first|exact vU @hH|refine vR @hH ?_))
  repeat (first|refine xR @hfT ?_|exact xU @hfT)
  all_goals trace_state
theorem Zjv {l:List Nat} {n:Nat}:(Zer l l.length n).length=cn l n:=by
 rw [ZeW (Nat.le_refl _),List.take_length];rfl
theorem ZfZ {l:List Nat}:(trR l).length=33:=by simp [trR,ZaB]
theorem ZHs {l:List Nat} {n:Nat} (h:n<16):(trR l).getD n .junk = .sc (.int .i64 ((fr l n:Nat):Int)):=by
 unfold trR
 rw [List.append_assoc]
 simp only [List.getD]
 rw [List.getElem?_append_left (by simp [ZaB];exact h)]
 simp [r16,h,nA]
theorem ZFC {l:List Nat} {n:Nat} (h:n<16):(trR l).getD (16+n) .junk = .sl (nl0 (cn l n)) none ((Zer l l.length n).map nA):=by
 unfold trR
 simp only [List.getD]
 rw [List.getElem?_append_left (by simp [ZaB];omega),List.getElem?_append_right (by simp [ZaB])]
 simp [ZaB,h,Zjv]
theorem Zvz {l:List Nat}:(trR l).getD 32 .junk = .sc (.int .i64 ((Zav l:Nat):Int)):=by
 unfold trR
 simp only [List.getD]
 rw [List.getElem?_append_right (by simp [ZaB])]
 simp [ZaB]
theorem Zb9 {l:List Nat}:AV.free.freeL (trR l)=true:=by
 unfold trR
 rw [Zii,Zii,Zaa]
 have:AV.free.freeL ((List.range 16).map (fun n=>AV.sl (nl0 (Zer l l.length n).length) none ((Zer l l.length n).map nA)))=true:=ZbB.2 fun x hx=>by
  obtain ⟨n,_,rfl⟩:=List.mem_map.1 hx
  simp only [AV.free,Zaa]
 rw [this];rfl
theorem Zri [Tabs Tryz.prog] (l:List Nat) (hK:Zav l≤32768) (v n:Nat) (hv:v<65536) (hn:n≤15):Con Tryz.prog ZgY [.fp (.agg (trR l)) 0,.sc (.int .i64 (v:Int)),.sc (.int .i64 (n:Int))] (boo (decide (v*2^(15-n)<Zav l))):=by
 refine Con.of' mix Tryz.func127 rfl Tryz.ntmps127 ZlL ZlM zB (by simp only [AV.free,AV.free.freeL,Zb9,Bool.and_self]) rfl ?_
 unfold Zg4
 have e1:(15:Int)-(n:Int)=((15-n:Nat):Int):=zO
 have hp:2^(15-n)≤32768:=ZaR (n:=15-n) (m:=15) zO
 obtain ⟨j,hj⟩:∃ j,j=15-n:=⟨_,rfl⟩
 rw [←hj] at hp e1 ⊢
 have hj15:j≤15:=zO
 have hz:v*2^j≤65536*32768:=Nat.mul_le_mul zO hp
 obtain ⟨z,hzz⟩:∃ z,z=v*2^j:=⟨_,rfl⟩
 rw [←hzz] at hz ⊢
 have hd:decide ((z:Int)<((Zav l:Nat):Int))=decide (z<Zav l):=decide_eq_decide.2 zO
 repeat (first|refine xR (ja5 @e1 hzz.symm @ZfZ @Zvz @hd) ?_|exact xU (ja5 @e1 hzz.symm @ZfZ @Zvz @hd))
def nxt (l B:List Nat):Nat→Nat→Nat→Nat × Nat × Nat
 | 0,n,_=>(0,n,3)
 | f+1,n,v =>
  if B.length≤n then (0,n,2) else
  if Zav l≤(2*v+B.getD n 0)*2^(15-(n+1)) then (0,n+1,3) else
  if 2*v+B.getD n 0-fr l (n+1)<cn l (n+1) then ((Zer l l.length (n+1)).getD (2*v+B.getD n 0-fr l (n+1)) 0,n+1,0) else
  nxt l B f (n+1) (2*v+B.getD n 0)
def BE9:=ja2 @rdR.eq_1 iR
set_option maxHeartbeats 1000000 in
theorem Zlc [Tabs Tryz.prog] (l:List Nat) (hl:l.length≤320) (hK:Zav l≤32768) (nl:Bool) (b:List UInt8) (hb:b.length≤1000000) (i:Nat) (hi:i≤8*b.length) (r:Nat × Nat × Nat) (hr:nxt l ((Zah b).drop i) 15 0 0=r) :
  HCon Tryz.prog ZdH [.fp (.agg (trR l)) 0,.op 1000 0 0] [.row false (rdR nl b i)] (.tup [.sc (.int .i64 (r.1:Int)),.sc (.int .i64 (r.2.2:Int))]) [(1000,0,.row false (rdR nl b (i+r.2.1)))] 100:=by
 refine HCon.of' mix Tryz.func90 rfl Tryz.ntmps90 ZnI ZnJ zB (by simp only [AV.gl.glL,AV.gl,and_true];exact ⟨Zag _ _ Zb9,by omega⟩) Zre ?_
 unfold ZiN
 repeat (first|refine xS ?_|exact xT)
 refine SWp.loop (α:=Nat × Nat) (fun x=>mk 55 (1+3*x.1) [(0,.fp (.agg (trR l)) 0),(1,.op 1000 0 0),(6,int (x.2:Nat)),(10,int x.1)] [(1000,0,.row false (rdR nl b (i+x.1)))])
  (fun x=>x.1≤15∧i+x.1≤8*b.length∧x.2<2^x.1∧fr l (x.1+1)≤2*x.2∧nxt l ((Zah b).drop i) (15-x.1) x.1 x.2=r) (fun x=>15-x.1) (0,0) ⟨Nat.zero_le _,hi,by decide,by simp [fr,cn],hr⟩ (Zaj rfl ?_ ?_ ?_) ?_
 ·exact Nat.le_refl _
 iterate 2 (case _=>(first|exact vT|refine vS ?_))
 rintro ⟨n,v⟩ ⟨hn,hin,hv,hF,hx⟩ -
 simp only at hn hin hv hF hx
 repeat (first|refine xS ?_|exact xT)
 refine SWp.cond rfl (fun h=>?_) (fun h=>?_)
 ·simp only [decide_eq_true_eq] at h
  have hn15:n<15:=zO
  obtain ⟨f,hf⟩:∃ f,15-n=f+1:=⟨14-n,by omega⟩
  have hBl:((Zah b).drop i).length=8*b.length-i:=by rw [List.length_drop,Zac]
  rw [hf,nxt,hBl] at hx
  have hleft:=ZgG nl b hb (i+n) hin
  by_cases c0:8*b.length-i≤n
  ·rw [if_pos c0] at hx
   have d0:decide (((8*b.length-(i+n):Nat):Int)=0)=true:=decide_eq_true zO
   subst hx
   repeat (first|refine xS ?_|exact xT)
   refine Zae [(1000,0)] 2000 hleft zB zB ?_ ?_ ?_
   iterate 2 (case _=>(first|exact vU @rdR.eq_1|refine vR @rdR.eq_1 ?_))
   repeat (first|refine xR (ja3 @d0 @rdR.eq_1 iR) ?_|exact xU (ja3 @d0 @rdR.eq_1 iR))
   omega
  ·rw [if_neg c0] at hx
   have d0:decide (((8*b.length-(i+n):Nat):Int)=0)=false:=decide_eq_false zO
   have hbd:((Zah b).drop i).getD n 0=Zlb b (i+n):=by
    rw [←ZlZ zO]
    simp [List.getD]
   rw [hbd] at hx
   have hbit:=Zqn nl b hb (i+n) zO
   have hbl:=Zrd (l:=b) (i:=i+n)
   obtain ⟨x,hxx⟩:∃ x,x=Zlb b (i+n):=⟨_,rfl⟩
   rw [←hxx] at hx hbit hbl
   have hp:2^n≤16384:=ZaR (n:=n) (m:=14) zO
   have hp2:2^(n+1)=2*2^n:=by rw [Nat.pow_succ];omega
   obtain ⟨w,hw⟩:∃ w,w=2*v+x:=⟨_,rfl⟩
   have hor:v*2|||x=w:=by
    have:=Nat.two_pow_add_eq_or_of_lt (i:=1) (b:=x) zO v
    rw [Nat.pow_one] at this
    rw [hw,Nat.mul_comm v 2];omega
   have hwl:w<2^(n+1):=zO
   have hwl2:w<32768:=zO
   rw [←hw] at hx
   have hbeg:=Zri l hK w (n+1) zO zO
   have hfw:fr l (n+1)≤w:=zO
   have hfl:=ZzZ hl (n:=n+1) zO
   repeat (first|refine xS ?_|exact xT)
   refine Zae [(1000,0)] 2000 hleft zB zB ?_ ?_ ?_
   iterate 2 (case _=>(first|exact vU @rdR.eq_1|refine vR @rdR.eq_1 ?_))
   repeat (first|refine xR (ja3 @d0 @rdR.eq_1 iR) ?_|exact xU (ja3 @d0 @rdR.eq_1 iR))
   refine Zae [(1000,0)] 3000 hbit zB zB ?_ ?_ ?_
   iterate 2 (case _=>(first|exact vU @rdR.eq_1|refine vR @rdR.eq_1 ?_))
   repeat (first|refine xR (ja4 @rdR.eq_1 iR @Nat.pow_one @hor) ?_|exact xU (ja4 @rdR.eq_1 iR @Nat.pow_one @hor))
   by_cases c1:Zav l≤w*2^(15-(n+1))
   ·rw [if_pos c1] at hx
    have dz:decide (w*2^(15-(n+1))<Zav l)=false:=decide_eq_false zO
    rw [dz] at hbeg
    subst hx
    refine Zaz _ (.inl ⟨by simp only [AV.free,AV.free.freeL,Zb9,Bool.and_self],hbeg⟩) ?_
    repeat (first|refine xR BE9 ?_|exact xU BE9)
    refine ⟨?_,by omega⟩
    rw [Int.add_assoc]
   ·rw [if_neg c1] at hx
    have dz:decide (w*2^(15-(n+1))<Zav l)=true:=decide_eq_true zO
    rw [dz] at hbeg
    obtain ⟨F,hFd⟩:∃ F,F=fr l (n+1):=⟨_,rfl⟩
    have hgF:=ZHs (l:=l) (n:=n+1) zO
    have hgS:=ZFC (l:=l) (n:=n+1) zO
    have hlS:=Zjv (l:=l) (n:=n+1)
    have hcl:=ZFy (l:=l) (n:=n+1)
    rw [←hFd] at hgF hfw hfl hx
    have hsub:(w:Int)-(F:Int)=((w-F:Nat):Int):=zO
    obtain ⟨S,hS⟩:∃ S,S=Zer l l.length (n+1):=⟨_,rfl⟩
    obtain ⟨c,hc⟩:∃ c,c=cn l (n+1):=⟨_,rfl⟩
    rw [←hS] at hgS hlS hx
    rw [←hc] at hgS hlS hcl hx
    obtain ⟨j,hj⟩:∃ j,j=w-F:=⟨_,rfl⟩
    rw [←hj] at hsub hx
    refine Zaz _ (.inl ⟨by simp only [AV.free,AV.free.freeL,Zb9,Bool.and_self],hbeg⟩) ?_
    by_cases c2:j<c
    ·rw [if_pos c2] at hx
     have d2:decide ((j:Int)<(c:Int))=true:=decide_eq_true zO
     subst hx
     repeat (first|refine xR (ja8 @rdR.eq_1 iR @ZfZ @hgF @hgS @hlS @hsub @d2) ?_|exact xU (ja8 @rdR.eq_1 iR @ZfZ @hgF @hgS @hlS @hsub @d2))
     refine ⟨?_,by omega⟩
     rw [Int.add_assoc]
    ·rw [if_neg c2] at hx
     have d2:decide ((j:Int)<(c:Int))=false:=decide_eq_false zO
     have hnx:fr l (n+1+1)≤2*w:=by
      rw [fr,←hFd,←hc];omega
     repeat (first|refine xR (ja8 @rdR.eq_1 iR @ZfZ @hgF @hgS @hlS @hsub @d2) ?_|exact xU (ja8 @rdR.eq_1 iR @ZfZ @hgF @hgS @hlS @hsub @d2))
     refine At.of (n+1,w) ⟨by simp only;omega,by simp only;omega,hwl,hnx,by simp only;rw [show 15-(n+1)=f by omega];exact hx⟩ (by simp only;omega) rfl rfl ?_ ?_ ?_
     ·simp only;omega
     iterate 2 (case _=>(first|exact vU BE8|refine vR BE8 ?_))
 ·simp only [decide_eq_false_iff_not] at h
  obtain rfl:n=15:=zO
  have hx:r=(0,15,3):=by rw [←hx];rfl
  subst hx
  repeat (first|refine xR BE9 ?_|exact xU BE9)
  all_goals trace_state
theorem Zad {ρ:Nat→Nat→Nat × Nat} {l:List Nat}:ren ρ (.fp (.agg (trR l)) 0) = .fp (.agg (trR l)) 0:=Zid ρ _ (by simp only [AV.free,Zb9])
theorem Zh0 {l B:List Nat}:∀ (f n v:Nat),n≤B.length→(nxt l B f n v).2.1≤B.length∧((nxt l B f n v).2.2=0∨((nxt l B f n v).2.2=2∧(nxt l B f n v).2.1=B.length)∨(nxt l B f n v).2.2=3)
 | 0,n,v,h=>⟨h,.inr (.inr rfl)⟩
 | f+1,n,v,h=>by
  rw [nxt]
  split
  ·exact ⟨h,.inr (.inl ⟨rfl,by simp only;omega⟩)⟩
  ·split
   ·exact ⟨by simp only;omega,.inr (.inr rfl)⟩
   ·split
    ·exact ⟨by simp only;omega,.inl rfl⟩
    ·exact Zh0 f (n+1) _ zO
inductive BT (α:Type) where
 | ret (a:α):BT α
 | err (e:Nat):BT α
 | pos (k:Nat→BT α):BT α
 | bit (k:Nat→BT α):BT α
inductive BR (α:Type) where
 | ok (a:α) (i:Nat):BR α
 | no (e:Nat):BR α
def BR.bnd {α β:Type}:BR α→(α→Nat→BR β)→BR β
 | .ok a i,f=>f a i
 | .no e,_=>.no e
def BT.bnd {α β:Type}:BT α→(α→BT β)→BT β
 | .ret a,f=>f a
 | .err e,_=>.err e
 | .pos k,f=>.pos fun i=>(k i).bnd f
 | .bit k,f=>.bit fun x=>(k x).bnd f
def BT.run {α:Type} (B:List Nat):BT α→Nat→BR α
 | .ret a,i=>.ok a i
 | .err e,_=>.no e
 | .pos k,i=>(k i).run B i
 | .bit k,i=>if i<B.length then (k (B.getD i 0)).run B (i+1) else .no 2
theorem Zal {α β:Type} {B:List Nat} {f:α→BT β}:∀ {t:BT α} {i:Nat},(t.bnd f).run B i=(t.run B i).bnd fun a j=>(f a).run B j
 | .ret _,_=>rfl
 | .err _,_=>rfl
 | .pos k,i=>by simp only [BT.bnd,BT.run];exact Zal
 | .bit k,i=>by
  simp only [BT.bnd,BT.run]
  split
  ·exact Zal
  ·rfl
theorem Zh1 {α:Type} {B:List Nat} {a:α} {j:Nat}:∀ {t:BT α} {i:Nat},t.run B i = .ok a j→i≤j∧(i≤B.length→j≤B.length)
 | .ret _,i,h=>by simp only [BT.run,BR.ok.injEq] at h;omega
 | .err _,_,h=>by simp [BT.run] at h
 | .pos k,i,h=>by simp only [BT.run] at h;exact Zh1 h
 | .bit k,i,h=>by
  simp only [BT.run] at h
  split at h
  ·have:=Zh1 h;exact ⟨by omega,fun _=>this.2 zO⟩
  ·cases h
def ZjN:Nat→BT Nat
 | 0=>.ret 0
 | n+1=>.bit fun x=>(ZjN n).bnd fun y=>.ret (x+2*y)
theorem Zl3 {B:List Nat}:∀ {n i:Nat},i≤B.length→(ZjN n).run B i=if i+n≤B.length then .ok (Zeq ((B.drop i).take n)) (i+n) else .no 2
 | 0,i,h=>by rw [if_pos zO];rfl
 | n+1,i,h=>by
  simp only [ZjN,BT.run,Zal]
  by_cases c:i<B.length
  ·rw [if_pos c,Zl3 zO]
   by_cases c2:i+(n+1)≤B.length
   ·rw [if_pos zO,if_pos c2]
    simp only [BR.bnd,BT.run]
    have:B.drop i=B.getD i 0::B.drop (i+1):=by
     rw [List.drop_eq_getElem_cons c];simp [List.getD,List.getElem?_eq_getElem c]
    rw [this,List.take_succ_cons,Zeq]
    congr 1
    omega
   ·rw [if_neg zO,if_neg c2];rfl
  ·rw [if_neg c,if_neg zO]
theorem Zn4 {b:List UInt8} {i n:Nat} (h:i+n≤8*b.length):Zeq (((Zah b).drop i).take n)=ZaY b i n:=by
 unfold ZaY
 congr 1
 apply List.ext_getElem?
 intro k
 rw [List.getElem?_take]
 by_cases hk:k<n
 ·have hj:i+k<8*b.length:=zO
  have hj2:i+k<(Zah b).length:=by rw [Zac];exact hj
  rw [if_pos hk,List.getElem?_drop,List.getElem?_map,List.getElem?_range hk,List.getElem?_eq_getElem hj2]
  simp only [Option.map_some,Option.some.injEq]
  rw [←ZlZ hj]
  simp [List.getD,List.getElem?_eq_getElem hj2]
 ·rw [if_neg hk,List.getElem?_eq_none (by simp;omega)]
theorem ZeX {b:List UInt8} {i n:Nat} (h:i≤8*b.length):(ZjN n).run (Zah b) i=if i+n≤8*b.length then .ok (ZaY b i n) (i+n) else .no 2:=by
 rw [Zl3 (by rw [Zac];exact h),Zac]
 split
 ·rw [Zn4 (by assumption)]
 ·rfl
def Zx0 (l:List Nat):Nat→Nat→Nat→BT Nat
 | 0,_,_=>.err 3
 | f+1,n,v=>.bit fun x =>
  if Zav l≤(2*v+x)*2^(15-(n+1)) then .err 3 else
  if 2*v+x-fr l (n+1)<cn l (n+1) then .ret ((Zer l l.length (n+1)).getD (2*v+x-fr l (n+1)) 0) else
  Zx0 l f (n+1) (2*v+x)
def Zys (i:Nat) (r:Nat × Nat × Nat):BR Nat:=if r.2.2=0 then .ok r.1 (i+r.2.1) else .no r.2.2
theorem ZvA {l B:List Nat} {i:Nat}:∀ {f n v:Nat},(Zx0 l f n v).run B (i+n)=Zys i (nxt l (B.drop i) f n v)
 | 0,n,v=>rfl
 | f+1,n,v=>by
  have hg:(B.drop i).getD n 0=B.getD (i+n) 0:=by simp [List.getD]
  rw [nxt,hg]
  simp only [Zx0,BT.run]
  by_cases c:i+n<B.length
  ·rw [if_pos c,if_neg (show ¬ (B.drop i).length≤n by rw [List.length_drop];omega)]
   split
   ·rfl
   ·split
    ·simp only [BT.run,Zys,if_true,Nat.add_assoc]
    ·exact ZvA (n:=n+1)
  ·rw [if_neg c,if_pos (show (B.drop i).length≤n by rw [List.length_drop];omega)];rfl
theorem ZmY {l B:List Nat} {i:Nat}:(Zx0 l 15 0 0).run B i=Zys i (nxt l (B.drop i) 15 0 0):=ZvA (n:=0)
def Zfd (v n:Nat):BT Nat:=(ZjN n).bnd fun x=>.ret (v+x)
def ZoS (s:Nat):BT Nat:=if 29≤s then .err 3 else if s=28 then .ret 258 else if s<8 then .ret (3+s) else Zfd (3+(4+s % 4)*2^(s / 4-1)) (s / 4-1)
def ZpM (s:Nat):BT Nat:=if 30≤s then .err 3 else if s<4 then .ret (1+s) else Zfd (1+(2+s % 2)*2^(s / 2-1)) (s / 2-1)
theorem Zrj {B:List Nat} (hB:∀ x∈B,x<2) {v n i a j:Nat} (h:(Zfd v n).run B i = .ok a j):a<v+2^n:=by
 rw [Zfd,Zal] at h
 have key:∀ (n i a j:Nat),(ZjN n).run B i = .ok a j→a<2^n:=by
  intro n
  induction n with
  | zero=>intro i a j h;simp only [ZjN,BT.run,BR.ok.injEq] at h;omega
  | succ n ih =>
   intro i a j h
   simp only [ZjN,BT.run,Zal] at h
   split at h
   ·rename_i hi
    have hx:B.getD i 0<2:=by
     have:B.getD i 0=B[i]:=by simp [List.getD,List.getElem?_eq_getElem hi]
     rw [this];exact hB _ (List.getElem_mem hi)
    cases hr:(ZjN n).run B (i+1) with
    | no e=>rw [hr] at h;cases h
    | ok y k =>
     rw [hr] at h
     have:=ih _ _ _ hr
     simp only [BR.bnd,BT.run,BR.ok.injEq] at h
     rw [Nat.pow_succ];omega
   ·cases h
 cases hr:(ZjN n).run B i with
 | no e=>rw [hr] at h;cases h
 | ok y k =>
  rw [hr] at h
  have:=key _ _ _ _ hr
  simp only [BR.bnd,BT.run,BR.ok.injEq] at h
  omega
theorem ZC9 {B:List Nat} {v n i a j:Nat} (h:(Zfd v n).run B i = .ok a j):v≤a:=by
 rw [Zfd,Zal] at h
 cases hr:(ZjN n).run B i with
 | no e=>rw [hr] at h;cases h
 | ok y k=>rw [hr] at h;simp only [BR.bnd,BT.run,BR.ok.injEq] at h;omega
theorem ZFD {b:List UInt8} {s i a j:Nat} (h:(ZoS s).run (Zah b) i = .ok a j):a≤258:=by
 unfold ZoS at h
 split at h
 ·cases h
 ·split at h
  ·simp only [BT.run,BR.ok.injEq] at h;omega
  ·split at h
   ·simp only [BT.run,BR.ok.injEq] at h;omega
   ·have:=Zrj ZdI h
    rename_i h1 h2 h3
    have hk:s / 4-1=1∨s / 4-1=2∨s / 4-1=3∨s / 4-1=4∨s / 4-1=5:=zO
    have hm:s % 4<4:=zO
    generalize s % 4=m at *
    generalize s / 4-1=k at *
    rcases hk with rfl | rfl | rfl | rfl | rfl <;> omega
theorem ZFE {b:List UInt8} {s i a j:Nat} (h:(ZpM s).run (Zah b) i = .ok a j):1≤a∧a≤32768:=by
 unfold ZpM at h
 split at h
 ·cases h
 ·split at h
  ·simp only [BT.run,BR.ok.injEq] at h;omega
  ·have h2:=Zrj ZdI h
   have h3:1≤a:=by
    rw [Zfd,Zal] at h
    cases hr:(ZjN (s / 2-1)).run (Zah b) i with
    | no e=>rw [hr] at h;cases h
    | ok y k=>rw [hr] at h;simp only [BR.bnd,BT.run,BR.ok.injEq] at h;omega
   refine ⟨h3,?_⟩
   have hk:2^(s / 2-1)≤8192:=ZaR (n:=s / 2-1) (m:=13) zO
   have hm:s % 2<2:=zO
   generalize s % 2=m at *
   generalize 2^(s / 2-1)=p at *
   obtain rfl | rfl:m=0∨m=1:=zO
   ·omega
   ·omega
def cpy (out:List UInt8) (k:Nat):Nat→List UInt8
 | 0=>out
 | n+1=>cpy (out++[out.getD (out.length-k) 0]) k n
theorem ZjO {k:Nat}:∀ {n:Nat} {out:List UInt8},(cpy out k n).length=out.length+n
 | 0,_=>rfl
 | n+1,out=>by rw [cpy,ZjO,List.length_append,List.length_singleton];omega
theorem Zn5 {k:Nat}:∀ {n:Nat} {out:List UInt8},cpy out k (n+1)=cpy out k n++[(cpy out k n).getD ((cpy out k n).length-k) 0]
 | 0,out=>rfl
 | n+1,out=>by
  show cpy (out++[out.getD (out.length-k) 0]) k (n+1)=_
  rw [Zn5];rfl
def Zx1 (most:Nat) (d:List Nat) (out:List UInt8) (s:Nat):BT (List UInt8) :=
 (ZoS s).bnd fun n=>(Zx0 d 15 0 0).bnd fun t=>(ZpM t).bnd fun k =>
  if out.length<k then .err 3 else if most<out.length+n then .err 4 else .ret (cpy out k n)
def ZoT (l d:List Nat) (most:Nat):Nat→List UInt8→BT (List UInt8)
 | 0,_=>.err 2
 | f+1,out=>(Zx0 l 15 0 0).bnd fun s =>
  if s<256 then (if most≤out.length then .err 4 else ZoT l d most f (out++[UInt8.ofNat s])) else
  if s=256 then .ret out else (Zx1 most d out (s-257)).bnd fun o=>ZoT l d most f o
def ZvB:Nat→BT (List UInt8)
 | 0=>.ret []
 | n+1=>(ZjN 8).bnd fun x=>(ZvB n).bnd fun r=>.ret (UInt8.ofNat x::r)
def ZDa (most:Nat) (out:List UInt8):BT (List UInt8) :=
 .pos fun i=>(ZjN ((i+7) / 8*8-i)).bnd fun _=>(ZjN 16).bnd fun n=>(ZjN 16).bnd fun m =>
  if n+m≠65535 then .err 3 else (ZvB n).bnd fun bs=>if most<out.length+n then .err 4 else .ret (out++bs)
def Ziv:List Nat:=[16,17,18,0,8,7,9,6,10,5,11,4,12,3,13,2,14,1,15]
def ZpN:Nat→Nat→List Nat→BT (List Nat)
 | 0,_,l=>.ret l
 | n+1,k,l=>(ZjN 3).bnd fun x=>ZpN n (k+1) (l.set (Ziv.getD k 0) x)
def lsV (s:Nat) (l:List Nat):Nat:=if s=16 then l.getD (l.length-1) 0 else if s=17∨s=18 then 0 else s
def lsN (s:Nat):Nat:=if s=16∨s=17 then 3 else if s=18 then 11 else 1
def lsB (s:Nat):Nat:=if s=16 then 2 else if s=17 then 3 else if s=18 then 7 else 0
def lsT (th:List Nat) (n:Nat):Nat→List Nat→BT (List Nat)
 | 0,_=>.err 3
 | f+1,l=>if n≤l.length then .ret l else (Zx0 th 15 0 0).bnd fun s =>
  if s=16∧l=[] then .err 3 else (Zfd (lsN s) (lsB s)).bnd fun t=>if n<l.length+t then .err 3 else lsT th n f (l++List.replicate t (lsV s l))
def fulN (l:List Nat):Bool:=decide (l.length≤320∧Zav l=32768)
def ZDb (l:List Nat):Bool:=decide (l.sum≤1) || fulN l
def ZuJ (l d:List Nat):Bool:=decide (l.getD 256 0≠0)&&fulN l&&ZDb d
def ZvC (n:Nat):BT (List Nat):=(ZpN n 0 (List.replicate 19 0)).bnd fun th=>if fulN th=true then .ret th else .err 3
def ZsN:BT (List Nat × List Nat) :=
 (ZjN 14).bnd fun c=>if 286<c % 32+257∨30<c / 32 % 32+1 then .err 3 else
  (ZvC (c / 1024+4)).bnd fun th=>(lsT th (c % 32+257+(c / 32 % 32+1)) 400 []).bnd fun ls =>
   if ZuJ (ls.take (c % 32+257)) (ls.drop (c % 32+257))=true then .ret (ls.take (c % 32+257),ls.drop (c % 32+257)) else .err 3
def ZpO:List Nat:=List.replicate 144 8++(List.replicate 112 9++(List.replicate 24 7++List.replicate 8 8))
def Zqp:List Nat:=List.replicate 32 5
def ZrO (most F:Nat) (out:List UInt8) (h:Nat):BT (List UInt8) :=
 if h=0 then ZDa most out else if h=1 then ZoT ZpO Zqp most F out else
 if h=2 then ZsN.bnd fun p=>ZoT p.1 p.2 most F out else .err 3
def ZsO (most F:Nat) (out:List UInt8):BT (Bool × List UInt8) :=
 (ZjN 3).bnd fun h=>(ZrO most F out (h / 2)).bnd fun o=>.ret (decide (h % 2=1),o)
def ZrP (most F:Nat):Nat→List UInt8→BT (List UInt8)
 | 0,_=>.err 2
 | f+1,out=>(ZsO most F out).bnd fun p=>if p.1=true then .ret p.2 else ZrP most F f p.2
def ZBO:BR (List UInt8)→List UInt8 × Nat × Nat
 | .ok o j=>(o,(j+7) / 8,0)
 | .no e=>([],0,e)
def Zx2 (F:Nat) (b:List UInt8) (most:Nat):List UInt8 × Nat × Nat:=ZBO ((ZrP most F F []).run (Zah b) 0)
theorem Zrk {b:List UInt8}:∀ {n j:Nat},j≤b.length→(ZvB n).run (Zah b) (8*j)=if j+n≤b.length then .ok ((b.drop j).take n) (8*(j+n)) else .no 2
 | 0,j,h=>by rw [if_pos zO];rfl
 | n+1,j,h=>by
  simp only [ZvB,Zal]
  rw [ZeX zO]
  by_cases c:j<b.length
  ·rw [if_pos zO]
   simp only [BR.bnd,Zal]
   rw [show 8*j+8=8*(j+1) by omega,Zrk zO]
   by_cases c2:j+(n+1)≤b.length
   ·rw [if_pos zO,if_pos c2]
    simp only [BR.bnd,BT.run]
    have e:b.drop j=b.getD j 0::b.drop (j+1):=by
     rw [List.drop_eq_getElem_cons c];simp [List.getD,List.getElem?_eq_getElem c]
    have e2:UInt8.ofNat (ZaY b (8*j) 8)=b.getD j 0:=by
     have h1:(Zah b).drop (8*j)=ZdA (b.getD j 0)++Zah (b.drop (j+1)):=by
      conv=>lhs;rw [←List.take_append_drop j b,ZbD]
      rw [List.drop_append,Zac,List.length_take,Nat.min_eq_left zO,Nat.sub_self,List.drop_zero,List.drop_of_length_le (by rw [Zac,List.length_take];omega),List.nil_append,e]
      simp [Zah]
     rw [←Zn4 zO,h1,List.take_append_of_le_length (by rw [ZaW];exact Nat.le_refl _),List.take_of_length_le (by rw [ZaW];exact Nat.le_refl _)]
     have:=(b.getD j 0).toNat_lt
     have h2:Zeq (ZdA (b.getD j 0))=(b.getD j 0).toNat:=numB_bitsB
     rw [h2];exact UInt8.ofNat_toNat
    rw [e2,e,List.take_succ_cons]
    congr 1
    omega
   ·rw [if_neg zO,if_neg c2]
  ·rw [if_neg zO,if_neg zO];rfl
where
 numB_bitsB {c:UInt8}:Zeq (ZdA c)=c.toNat:=by
  have:=c.toNat_lt
  simp only [ZdA,show List.range 8=[0,1,2,3,4,5,6,7] from rfl,List.map_cons,List.map_nil,Zeq]
  omega
theorem ZvD {b:List UInt8} {most:Nat} {out:List UInt8} {i:Nat} (hi:i≤8*b.length) :
  (ZDa most out).run (Zah b) i =
   if 8*b.length<(i+7) / 8*8+16 then .no 2 else if 8*b.length<(i+7) / 8*8+32 then .no 2 else
   if ZaY b ((i+7) / 8*8) 16+ZaY b ((i+7) / 8*8+16) 16≠65535 then .no 3 else
   if b.length<(i+7) / 8+4+ZaY b ((i+7) / 8*8) 16 then .no 2 else
   if most<out.length+ZaY b ((i+7) / 8*8) 16 then .no 4 else
   .ok (out++(b.drop ((i+7) / 8+4)).take (ZaY b ((i+7) / 8*8) 16)) (8*((i+7) / 8+4+ZaY b ((i+7) / 8*8) 16)):=by
 obtain ⟨q,hq⟩:∃ q,q=(i+7) / 8:=⟨_,rfl⟩
 rw [←hq]
 simp only [ZDa,BT.run,Zal]
 rw [←hq,ZeX hi,if_pos zO]
 simp only [BR.bnd,Zal]
 rw [show i+(q*8-i)=q*8 by omega,ZeX zO]
 by_cases c1:8*b.length<q*8+16
 ·rw [if_neg zO,if_pos c1]
 ·rw [if_pos zO,if_neg c1]
  simp only [BR.bnd,Zal]
  rw [ZeX zO]
  by_cases c2:8*b.length<q*8+32
  ·rw [if_neg zO,if_pos c2]
  ·rw [if_pos zO,if_neg c2]
   simp only [BR.bnd]
   split
   ·rfl
   ·rw [Zal,show q*8+16+16=8*(q+4) by omega,Zrk zO]
    by_cases c3:b.length<q+4+ZaY b (q*8) 16
    ·rw [if_neg zO,if_pos c3];rfl
    ·rw [if_pos zO,if_neg c3]
     simp only [BR.bnd]
     split
     ·rfl
     ·rfl
inductive BT.safe {α:Type}:BT α→Prop where
 | ret (a:α):BT.safe (.ret a)
 | err (e:Nat) (h:e≠0∧e≤10):BT.safe (.err e)
 | pos (k:Nat→BT α) (h:∀ i,BT.safe (k i)):BT.safe (.pos k)
 | bit (k:Nat→BT α) (h:∀ x,BT.safe (k x)):BT.safe (.bit k)
theorem Zbj {α β:Type} {f:α→BT β} {t:BT α} (h:t.safe) (h2:∀ a,(f a).safe):(t.bnd f).safe:=by
 induction h with
 | ret a=>exact h2 a
 | err e h=>exact .err e h
 | pos k _ ih=>exact .pos _ ih
 | bit k _ ih=>exact .bit _ ih
theorem ZfS {α:Type} {B:List Nat} {e:Nat} {t:BT α} (h:t.safe):∀ {i:Nat},t.run B i = .no e→e≠0∧e≤10:=by
 induction h with
 | ret a=>intro i h;simp [BT.run] at h
 | err e h=>intro i h2;simp only [BT.run,BR.no.injEq] at h2;subst h2;exact h
 | pos k _ ih=>intro i h2;simp only [BT.run] at h2;exact ih _ h2
 | bit k _ ih =>
  intro i h2
  simp only [BT.run] at h2
  split at h2
  ·exact ih _ h2
  ·simp only [BR.no.injEq] at h2;omega
theorem Zch {α:Type} {a:α}:(BT.ret a).safe:=.ret a
theorem ZfT {α:Type} {c:Prop} [Decidable c] {a b:BT α} (ha:a.safe) (hb:b.safe):(if c then a else b).safe:=by split <;> assumption
theorem Zb0 {α:Type} {e:Nat} (h:e≠0∧e≤10):(BT.err e:BT α).safe:=.err e h
theorem ZfU:∀ {n:Nat},(ZjN n).safe
 | 0=>.ret _
 | _+1=>.bit _ fun _=>Zbj ZfU fun _=>.ret _
theorem Zn6 {l:List Nat}:∀ {f n v:Nat},(Zx0 l f n v).safe
 | 0,_,_=>Zb0 zO
 | _+1,_,_=>.bit _ fun _=>ZfT (Zb0 zO) (ZfT Zch Zn6)
theorem ZoU {v n:Nat}:(Zfd v n).safe:=Zbj ZfU fun _=>Zch
theorem ZDc {s:Nat}:(ZoS s).safe:=ZfT (Zb0 zO) (ZfT Zch (ZfT Zch ZoU))
theorem ZDd {s:Nat}:(ZpM s).safe:=ZfT (Zb0 zO) (ZfT Zch ZoU)
theorem Zz4 {most s:Nat} {d:List Nat} {out:List UInt8}:(Zx1 most d out s).safe:=by
 unfold Zx1
 exact Zbj ZDc fun _=>Zbj Zn6 fun _=>Zbj ZDd fun _=>ZfT (Zb0 zO) (ZfT (Zb0 zO) Zch)
theorem Zrl {l d:List Nat} {most:Nat}:∀ (f:Nat) (out:List UInt8),(ZoT l d most f out).safe:=by
 intro f
 induction f with
 | zero=>intro out;exact Zb0 zO
 | succ f ih =>
  intro out
  rw [ZoT]
  refine Zbj Zn6 fun s=>?_
  by_cases h:s<256
  ·rw [if_pos h]
   by_cases h2:most≤out.length
   ·rw [if_pos h2];exact Zb0 zO
   ·rw [if_neg h2];exact ih _
  ·rw [if_neg h]
   by_cases h2:s=256
   ·rw [if_pos h2];exact Zch
   ·rw [if_neg h2];exact Zbj Zz4 fun o=>ih o
theorem ZDe:∀ (n:Nat),(ZvB n).safe:=by
 intro n
 induction n with
 | zero=>exact Zch
 | succ n ih=>rw [ZvB];exact Zbj ZfU fun x=>Zbj ih fun r=>Zch
theorem ZDf {α:Type} {k:Nat→BT α} (h:∀ i,(k i).safe):(BT.pos k).safe:=.pos k h
theorem ZDg {most:Nat} {out:List UInt8}:(ZDa most out).safe:=by
 unfold ZDa
 refine ZDf fun i=>?_
 refine Zbj ZfU fun _=>?_
 refine Zbj ZfU fun n=>?_
 refine Zbj ZfU fun m=>?_
 by_cases h:n+m≠65535
 ·rw [if_pos h];exact Zb0 zO
 ·rw [if_neg h]
  refine Zbj (ZDe n) fun bs=>?_
  by_cases h2:most<out.length+n
  ·rw [if_pos h2];exact Zb0 zO
  ·rw [if_neg h2];exact Zch
theorem ZDh:∀ (n k:Nat) (l:List Nat),(ZpN n k l).safe:=by
 intro n
 induction n with
 | zero=>intro k l;exact Zch
 | succ n ih=>intro k l;rw [ZpN];exact Zbj ZfU fun x=>ih _ _
theorem Zz5 {th:List Nat} {n:Nat}:∀ (f:Nat) (l:List Nat),(lsT th n f l).safe:=by
 intro f
 induction f with
 | zero=>intro l;exact Zb0 zO
 | succ f ih =>
  intro l
  rw [lsT]
  by_cases h:n≤l.length
  ·rw [if_pos h];exact Zch
  ·rw [if_neg h]
   refine Zbj Zn6 fun s=>?_
   by_cases h2:s=16∧l=[]
   ·rw [if_pos h2];exact Zb0 zO
   ·rw [if_neg h2]
    refine Zbj ZoU fun t=>?_
    by_cases h3:n<l.length+t
    ·rw [if_pos h3];exact Zb0 zO
    ·rw [if_neg h3];exact ih _
theorem ZvE {n:Nat}:(ZvC n).safe:=by
 unfold ZvC
 refine Zbj (ZDh _ _ _) fun th=>?_
 by_cases h2:fulN th=true
 ·rw [if_pos h2];exact Zch
 ·rw [if_neg h2];exact Zb0 zO
theorem ZvF:ZsN.safe:=by
 unfold ZsN
 refine Zbj ZfU fun c=>?_
 by_cases h:286<c % 32+257∨30<c / 32 % 32+1
 ·rw [if_pos h];exact Zb0 zO
 ·rw [if_neg h]
  refine Zbj ZvE fun th=>Zbj (Zz5 _ _) fun ls=>?_
  by_cases h3:ZuJ (ls.take (c % 32+257)) (ls.drop (c % 32+257))=true
  ·rw [if_pos h3];exact Zch
  ·rw [if_neg h3];exact Zb0 zO
theorem Zrm {most F h:Nat} {out:List UInt8}:(ZrO most F out h).safe:=by
 unfold ZrO
 by_cases h0:h=0
 ·rw [if_pos h0];exact ZDg
 ·rw [if_neg h0]
  by_cases h1:h=1
  ·rw [if_pos h1];exact Zrl _ _
  ·rw [if_neg h1]
   by_cases h2:h=2
   ·rw [if_pos h2];exact Zbj ZvF fun p=>Zrl _ _
   ·rw [if_neg h2];exact Zb0 zO
theorem ZvG {most F:Nat} {out:List UInt8}:(ZsO most F out).safe:=by
 unfold ZsO
 exact Zbj ZfU fun h=>Zbj Zrm fun o=>Zch
theorem ZvH {most F:Nat}:∀ (f:Nat) (out:List UInt8),(ZrP most F f out).safe:=by
 intro f
 induction f with
 | zero=>intro out;exact Zb0 zO
 | succ f ih =>
  intro out
  rw [ZrP]
  refine Zbj ZvG fun p=>?_
  by_cases h:p.1=true
  ·rw [if_pos h];exact Zch
  ·rw [if_neg h];exact ih _
def cds (l d:List Nat):AV:=.fp (.agg [.fp (.agg (trR l)) 0,.fp (.agg (trR d)) 0]) 0
def fxA:Bool→AV
 | true=>cds ZpO Zqp
 | false=>.sc (.pointer none)
theorem Zl4 {l d:List Nat}:(cds l d).free=true:=by simp only [cds,AV.free,AV.free.freeL,Zb9,Bool.and_self]
theorem ZvI {t:Bool}:(fxA t).free=true:=by
 cases t
 ·rfl
 ·exact Zl4
theorem Zcu {ρ:Nat→Nat→Nat × Nat} {l d:List Nat}:ren ρ (cds l d)=cds l d:=Zid ρ _ Zl4
theorem Zab {ρ:Nat→Nat→Nat × Nat} {t:Bool}:ren ρ (fxA t)=fxA t:=Zid ρ _ ZvI
theorem Zz6 {id g:Nat} {nl:Bool} {cells:List AV} {t:Bool}:fzo id g nl cells (fxA t)=fxA t:=by cases t <;> rfl
theorem Zh2 {t:Bool}:Zas (fxA t)=some [fxA t]:=by cases t <;> rfl
def unR (t:Bool) (most g n:Nat):List AV:=[.op 1001 0 0,.own 1002 g none 0 n,int (most:Int),fxA t]
def unI (t:Bool) (most:Nat) (nl:Bool) (b:List UInt8) (i:Nat) (out:List UInt8):List AO:=[.row false (unR t most 0 out.length),.row false (rdR nl b i),.row (nl0 out.length) (out.map u8)]
def unO (g:Nat) (t:Bool) (most:Nat) (nl:Bool) (b:List UInt8) (i:Nat) (out:List UInt8):List (Nat × Nat × AO):=[(1000,0,.row false (unR t most g out.length)),(1001,0,.row false (rdR nl b i)),(1002,g,.row (nl0 out.length) (out.map u8))]
theorem Zfe {t:Bool} {most:Nat} {nl:Bool} {b:List UInt8} {i:Nat} {out:List UInt8}:∀ m cells,AO.row m cells∈unI t most nl b i out→AV.gl.glL 1 cells:=by
 intro m cells h
 simp only [unI,List.mem_cons,AO.row.injEq,List.not_mem_nil,or_false] at h
 obtain ⟨-,rfl⟩ | ⟨-,rfl⟩ | ⟨-,rfl⟩:=h
 ·simp only [unR,AV.gl.glL,AV.gl,int,and_true]
  exact ⟨by omega,by omega,trivial,ZbP 1 _ ZvI⟩
 ·simp only [rdR,AV.gl.glL,AV.gl,and_true]
  exact Zag _ _ ZaD
 ·exact Zag _ _ ZaD
def BE7:=ja2 @unI.eq_1 @unR.eq_1
def BE10:=ja3 @rdR.eq_1 @unO.eq_1 @unR.eq_1
theorem Zx3 [Tabs Tryz.prog] (t:Bool) (most:Nat) (nl:Bool) (b:List UInt8) (hb:b.length≤1000000) (i:Nat) (hi:i≤8*b.length) (out:List UInt8) (v n:Nat) (hn:n≤24) (hv:v<100000) (hin:i+n≤8*b.length) :
  HCon Tryz.prog Za0 [.op 1000 0 0,int (v:Int),int (n:Int)] (unI t most nl b i out) (.tup [int ((v+ZaY b i n:Nat):Int),int 0]) (unO 0 t most nl b (i+n) out) 40:=by
 refine HCon.of' mix Tryz.func131 rfl Tryz.ntmps131 Zec Zed zB (by simp [AV.gl,AV.gl.glL,int]) Zfe ?_
 unfold Zcq
 have hT:=ZeV nl b hb i hi n hn hin
 have hlt:=Ze1 (b:=b) (i:=i) (n:=n)
 have hp:2^n≤16777216:=ZaR (n:=n) (m:=24) hn
 obtain ⟨x,hx⟩:∃ x,x=ZaY b i n:=⟨_,rfl⟩
 rw [←hx] at hT hlt ⊢
 repeat (first|refine zR BE7 ?_|exact zU BE7)
 refine Zae [(1001,0)] 2000 hT zB zB ?_ ?_ ?_
 iterate 2 (case _=>(first|exact yU @rdR.eq_1|refine yR @rdR.eq_1 ?_))
 repeat (first|refine zR BE10 ?_|exact zU BE10)
theorem ZuK [Tabs Tryz.prog] (t:Bool) (most:Nat) (nl:Bool) (b:List UInt8) (hb:b.length≤1000000) (i:Nat) (hi:i≤8*b.length) (out:List UInt8) (v n:Nat) (hin:¬ i+n≤8*b.length) :
  HCon Tryz.prog Za0 [.op 1000 0 0,int (v:Int),int (n:Int)] (unI t most nl b i out) (.tup [int 0,int 2]) [] 40:=by
 refine HCon.of' mix Tryz.func131 rfl Tryz.ntmps131 Zec Zed zB (by simp [AV.gl,AV.gl.glL,int]) Zfe ?_
 unfold Zcq
 have hT:=Zd2 nl b hb i hi (n:Int) (decide_eq_false zO)
 repeat (first|refine zR BE7 ?_|exact zU BE7)
 refine Zae [(1001,0)] 2000 hT zB zB ?_ ?_ ?_
 iterate 2 (case _=>(first|exact yU @rdR.eq_1|refine yR @rdR.eq_1 ?_))
 repeat (first|refine zR BE10 ?_|exact zU BE10)
theorem Zh3 [Tabs Tryz.prog] (t:Bool) (most:Nat) (hm:most≤16777216) (nl:Bool) (b:List UInt8) (i:Nat) (out:List UInt8) (ho:out.length≤most) :
  HCon Tryz.prog ZbM [.op 1000 0 0] (unI t most nl b i out) (int ((most-out.length:Nat):Int)) (unO 0 t most nl b i out) 1:=by
 refine HCon.of' mix Tryz.func88 rfl Tryz.ntmps88 Zik Zil zB (by simp [AV.gl,AV.gl.glL,int]) Zfe ?_
 unfold Zeb
 have e:(most:Int)-(out.length:Int)=((most-out.length:Nat):Int):=zO
 repeat (first|refine zR (ja4 @unI.eq_1 @unO.eq_1 @unR.eq_1 @e) ?_|exact zU (ja4 @unI.eq_1 @unO.eq_1 @unR.eq_1 @e))
def BE2:=ja4 @unI.eq_1 @unR.eq_1 @rdR.eq_1 @Zab
theorem ZpP [Tabs Tryz.prog] (t:Bool) (most:Nat) (hm:most≤16777216) (nl:Bool) (b:List UInt8) (i:Nat) (out:List UInt8) (ho:out.length≤most) (c:UInt8) (hf:most≤out.length) :
  HCon Tryz.prog Zb2 [.op 1000 0 0,u8 c] (unI t most nl b i out) (int 4) [] 10:=by
 refine HCon.of' mix Tryz.func91 rfl Tryz.ntmps91 Zde Zdf zB (by simp [AV.gl,AV.gl.glL,u8]) Zfe ?_
 unfold Zb4
 have d:decide (((most-out.length:Nat):Int)<1)=true:=decide_eq_true zO
 repeat (first|refine zS ?_|exact zT)
 refine Zae [(1000,0),(1001,0),(1002,0)] 2000 (Zh3 t most hm nl b i out ho) zB zB ?_ ?_ ?_
 iterate 2 (case _=>(first|exact yU BE2|refine yR BE2 ?_))
 repeat (first|refine zR (ja5 @unO.eq_1 @unR.eq_1 @rdR.eq_1 @Zab @d) ?_|exact zU (ja5 @unO.eq_1 @unR.eq_1 @rdR.eq_1 @Zab @d))
theorem Zrn [Tabs Tryz.prog] (t:Bool) (most:Nat) (hm:most≤16777216) (nl:Bool) (b:List UInt8) (i:Nat) (out:List UInt8) (hf:out.length<most) (c:UInt8) :
  HCon Tryz.prog Zb2 [.op 1000 0 0,u8 c] (unI t most nl b i out) (int 0) (unO 2 t most nl b i (out++[c])) 10:=by
 refine HCon.of' mix Tryz.func91 rfl Tryz.ntmps91 Zde Zdf zB (by simp [AV.gl,AV.gl.glL,u8]) Zfe ?_
 unfold Zb4
 have d:decide (((most-out.length:Nat):Int)<1)=false:=decide_eq_false zO
 repeat (first|refine zS ?_|exact zT)
 refine Zae [(1000,0),(1001,0),(1002,0)] 2000 (Zh3 t most hm nl b i out zO) zB zB ?_ ?_ ?_
 iterate 2 (case _=>(first|exact yU BE2|refine yR BE2 ?_))
 repeat (first|refine zR (ja7 @unO.eq_1 @unR.eq_1 @rdR.eq_1 @Zab @d @Zh2 @Zbi) ?_|exact zU (ja7 @unO.eq_1 @unR.eq_1 @rdR.eq_1 @Zab @d @Zh2 @Zbi))
def Ans {α:Type} (P:Program) [Tabs P] (f:Nat) (ins:List AV) (hin:List AO) (r:BR α) (good:α→AV) (hout:α→Nat→List (Nat × Nat × AO)) (bad:Nat→AV) (k:Nat):Prop :=
 match r with
 | .ok a j=>HCon P f ins hin (good a) (hout a j) k
 | .no e=>(e≠0∧e≤10)∧HCon P f ins hin (bad e) [] k
def okI (v:Nat):AV:=.tup [int (v:Int),int 0]
def noI (e:Nat):AV:=.tup [int 0,int (e:Int)]
theorem ZmZ [Tabs Tryz.prog] (t:Bool) (most:Nat) (nl:Bool) (b:List UInt8) (hb:b.length≤1000000) (i:Nat) (hi:i≤8*b.length) (out:List UInt8) (v n:Nat) (hn:n≤24) (hv:v<100000) :
  Ans Tryz.prog Za0 [.op 1000 0 0,int (v:Int),int (n:Int)] (unI t most nl b i out) ((Zfd v n).run (Zah b) i) okI (fun _ j=>unO 0 t most nl b j out) noI 40:=by
 rw [Zfd,Zal,ZeX hi]
 split
 ·exact Zx3 t most nl b hb i hi out v n hn hv (by assumption)
 ·exact ⟨by omega,ZuK t most nl b hb i hi out v n (by assumption)⟩
def BE11:=ja5 @okI.eq_1 @unO.eq_1 @unR.eq_1 @rdR.eq_1 @Zab
def BE12:=ja5 @noI.eq_1 @unO.eq_1 @unR.eq_1 @rdR.eq_1 @Zab
theorem ZsP [Tabs Tryz.prog] (t:Bool) (most:Nat) (nl:Bool) (b:List UInt8) (hb:b.length≤1000000) (i:Nat) (hi:i≤8*b.length) (out:List UInt8) (s:Nat) (hs:s<1000) :
  Ans Tryz.prog Zdt [.op 1000 0 0,int (s:Int)] (unI t most nl b i out) ((ZoS s).run (Zah b) i) okI (fun _ j=>unO 0 t most nl b j out) noI 50:=by
 by_cases c1:29≤s
 ·rw [show ZoS s = .err 3 by rw [ZoS,if_pos c1]]
  refine ⟨by omega,HCon.of' mix Tryz.func128 rfl Tryz.ntmps128 Za6 Za7 zB (by simp [AV.gl,AV.gl.glL,int]) Zfe ?_⟩
  unfold ZaK
  have d1:decide ((29:Int)≤(s:Int))=true:=decide_eq_true zO
  repeat (first|refine zR (ja2 @d1 @noI.eq_1) ?_|exact zU (ja2 @d1 @noI.eq_1))
 have d1:decide ((29:Int)≤(s:Int))=false:=decide_eq_false zO
 by_cases c2:s=28
 ·subst c2
  rw [show ZoS 28 = .ret 258 from rfl]
  refine HCon.of' mix Tryz.func128 rfl Tryz.ntmps128 Za6 Za7 zB (by simp [AV.gl,AV.gl.glL,int]) Zfe ?_
  unfold ZaK
  repeat (first|refine zR (ja5 @d1 @okI.eq_1 @unI.eq_1 @unR.eq_1 @unO.eq_1) ?_|exact zU (ja5 @d1 @okI.eq_1 @unI.eq_1 @unR.eq_1 @unO.eq_1))
 have d2:decide ((s:Int)=28)=false:=decide_eq_false zO
 by_cases c3:s<8
 ·rw [show ZoS s = .ret (3+s) by rw [ZoS,if_neg c1,if_neg c2,if_pos c3]]
  refine HCon.of' mix Tryz.func128 rfl Tryz.ntmps128 Za6 Za7 zB (by simp [AV.gl,AV.gl.glL,int]) Zfe ?_
  unfold ZaK
  have d3:decide ((s:Int)<8)=true:=decide_eq_true zO
  repeat (first|refine zR (ja7 @d1 @d2 @d3 @okI.eq_1 @unI.eq_1 @unR.eq_1 @unO.eq_1) ?_|exact zU (ja7 @d1 @d2 @d3 @okI.eq_1 @unI.eq_1 @unR.eq_1 @unO.eq_1))
 have d3:decide ((s:Int)<8)=false:=decide_eq_false zO
 rw [show ZoS s=Zfd (3+(4+s % 4)*2^(s / 4-1)) (s / 4-1) by rw [ZoS,if_neg c1,if_neg c2,if_neg c3]]
 obtain ⟨k,hk⟩:∃ k,k=s / 4-1:=⟨_,rfl⟩
 obtain ⟨m,hm⟩:∃ m,m=s % 4:=⟨_,rfl⟩
 obtain ⟨q,hq⟩:∃ q,q=s / 4:=⟨_,rfl⟩
 have e1:(q:Int)-1=(k:Int):=zO
 have hk6:k≤6:=zO
 have hm4:m<4:=zO
 have hp:2^k≤64:=ZaR (n:=k) (m:=6) hk6
 have hz2:(4+m)*2^k≤7*64:=Nat.mul_le_mul zO hp
 obtain ⟨p,hpd⟩:∃ p,p=2^k:=⟨_,rfl⟩
 obtain ⟨z,hz⟩:∃ z,z=(4+m)*2^k:=⟨_,rfl⟩
 have e2:((4:Int)+(m:Int))*2^k=(z:Int):=by rw [hz,Int.natCast_mul,Int.natCast_add,Int.natCast_pow];rfl
 rw [←hk,←hm,←hz]
 rw [←hz] at hz2
 have hA:=ZmZ t most nl b hb i hi out (3+z) k zO zO
 obtain ⟨r,hr⟩:∃ r,r=(Zfd (3+z) k).run (Zah b) i:=⟨_,rfl⟩
 rw [←hr] at hA ⊢
 cases r with
 | ok a j =>
  refine HCon.of' mix Tryz.func128 rfl Tryz.ntmps128 Za6 Za7 zB (by simp [AV.gl,AV.gl.glL,int]) Zfe ?_
  unfold ZaK
  repeat (first|refine zR (ja7 @d1 @d2 @d3 hq.symm hm.symm @e1 @e2) ?_|exact zU (ja7 @d1 @d2 @d3 hq.symm hm.symm @e1 @e2))
  refine Zae [(1000,0),(1001,0),(1002,0)] 2000 hA zB zB ?_ ?_ ?_
  iterate 2 (case _=>(first|exact yU BE2|refine yR BE2 ?_))
  repeat (first|refine zR BE11 ?_|exact zU BE11)
 | no e =>
  refine ⟨hA.1,HCon.of' mix Tryz.func128 rfl Tryz.ntmps128 Za6 Za7 zB (by simp [AV.gl,AV.gl.glL,int]) Zfe ?_⟩
  unfold ZaK
  repeat (first|refine zR (ja7 @d1 @d2 @d3 hq.symm hm.symm @e1 @e2) ?_|exact zU (ja7 @d1 @d2 @d3 hq.symm hm.symm @e1 @e2))
  refine Zae [(1000,0),(1001,0),(1002,0)] 2000 hA.2 zB zB ?_ ?_ ?_
  iterate 2 (case _=>(first|exact yU BE2|refine yR BE2 ?_))
  repeat (first|refine zR BE12 ?_|exact zU BE12)
theorem ZpQ [Tabs Tryz.prog] (t:Bool) (most:Nat) (nl:Bool) (b:List UInt8) (hb:b.length≤1000000) (i:Nat) (hi:i≤8*b.length) (out:List UInt8) (s:Nat) (hs:s<1000) :
  Ans Tryz.prog ZcR [.op 1000 0 0,int (s:Int)] (unI t most nl b i out) ((ZpM s).run (Zah b) i) okI (fun _ j=>unO 0 t most nl b j out) noI 50:=by
 by_cases c1:30≤s
 ·rw [show ZpM s = .err 3 by rw [ZpM,if_pos c1]]
  refine ⟨by omega,HCon.of' mix Tryz.func129 rfl Tryz.ntmps129 Zbp Zbq zB (by simp [AV.gl,AV.gl.glL,int]) Zfe ?_⟩
  unfold ZaV
  have d1:decide ((30:Int)≤(s:Int))=true:=decide_eq_true zO
  repeat (first|refine zR (ja2 @d1 @noI.eq_1) ?_|exact zU (ja2 @d1 @noI.eq_1))
 have d1:decide ((30:Int)≤(s:Int))=false:=decide_eq_false zO
 by_cases c3:s<4
 ·rw [show ZpM s = .ret (1+s) by rw [ZpM,if_neg c1,if_pos c3]]
  refine HCon.of' mix Tryz.func129 rfl Tryz.ntmps129 Zbp Zbq zB (by simp [AV.gl,AV.gl.glL,int]) Zfe ?_
  unfold ZaV
  have d3:decide ((s:Int)<4)=true:=decide_eq_true zO
  repeat (first|refine zR (ja6 @d1 @d3 @okI.eq_1 @unI.eq_1 @unR.eq_1 @unO.eq_1) ?_|exact zU (ja6 @d1 @d3 @okI.eq_1 @unI.eq_1 @unR.eq_1 @unO.eq_1))
 have d3:decide ((s:Int)<4)=false:=decide_eq_false zO
 rw [show ZpM s=Zfd (1+(2+s % 2)*2^(s / 2-1)) (s / 2-1) by rw [ZpM,if_neg c1,if_neg c3]]
 obtain ⟨k,hk⟩:∃ k,k=s / 2-1:=⟨_,rfl⟩
 obtain ⟨m,hm⟩:∃ m,m=s % 2:=⟨_,rfl⟩
 obtain ⟨q,hq⟩:∃ q,q=s / 2:=⟨_,rfl⟩
 have e1:(q:Int)-1=(k:Int):=zO
 have hk6:k≤13:=zO
 have hm4:m<2:=zO
 have hp:2^k≤8192:=ZaR (n:=k) (m:=13) hk6
 have hz2:(2+m)*2^k≤3*8192:=Nat.mul_le_mul zO hp
 obtain ⟨p,hpd⟩:∃ p,p=2^k:=⟨_,rfl⟩
 obtain ⟨z,hz⟩:∃ z,z=(2+m)*2^k:=⟨_,rfl⟩
 have e2:((2:Int)+(m:Int))*2^k=(z:Int):=by rw [hz,Int.natCast_mul,Int.natCast_add,Int.natCast_pow];rfl
 rw [←hk,←hm,←hz]
 rw [←hz] at hz2
 have hA:=ZmZ t most nl b hb i hi out (1+z) k zO zO
 obtain ⟨r,hr⟩:∃ r,r=(Zfd (1+z) k).run (Zah b) i:=⟨_,rfl⟩
 rw [←hr] at hA ⊢
 cases r with
 | ok a j =>
  refine HCon.of' mix Tryz.func129 rfl Tryz.ntmps129 Zbp Zbq zB (by simp [AV.gl,AV.gl.glL,int]) Zfe ?_
  unfold ZaV
  repeat (first|refine zR (ja6 @d1 @d3 hq.symm hm.symm @e1 @e2) ?_|exact zU (ja6 @d1 @d3 hq.symm hm.symm @e1 @e2))
  refine Zae [(1000,0),(1001,0),(1002,0)] 2000 hA zB zB ?_ ?_ ?_
  iterate 2 (case _=>(first|exact yU BE2|refine yR BE2 ?_))
  repeat (first|refine zR BE11 ?_|exact zU BE11)
 | no e =>
  refine ⟨hA.1,HCon.of' mix Tryz.func129 rfl Tryz.ntmps129 Zbp Zbq zB (by simp [AV.gl,AV.gl.glL,int]) Zfe ?_⟩
  unfold ZaV
  repeat (first|refine zR (ja6 @d1 @d3 hq.symm hm.symm @e1 @e2) ?_|exact zU (ja6 @d1 @d3 hq.symm hm.symm @e1 @e2))
  refine Zae [(1000,0),(1001,0),(1002,0)] 2000 hA.2 zB zB ?_ ?_ ?_
  iterate 2 (case _=>(first|exact yU BE2|refine yR BE2 ?_))
  repeat (first|refine zR BE12 ?_|exact zU BE12)
def kn:List Nat→Nat→Nat
 | [],_=>0
 | x::r,n=>(if x<n then wt x else 0)+kn r n
theorem Zro {l:List Nat} {n:Nat}:kn l (n+1)=kn l n+l.count n*wt n:=by
 induction l with
 | nil=>simp [kn]
 | cons x l ih =>
  simp only [kn,ih,List.count_cons]
  by_cases e:x=n
  ·subst e;simp [Nat.add_mul];omega
  ·by_cases e2:x<n
   ·rw [if_pos zO,if_pos e2];simp [e];omega
   ·rw [if_neg zO,if_neg e2];simp [e]
theorem ZD3 {l:List Nat} (h:∀ x∈l,x≤15):kn l 16=Zav l:=by
 induction l with
 | nil=>rfl
 | cons x l ih =>
  have:=h x zB
  simp only [kn,Zav,ih fun y hy=>h y (by simp [hy])]
  rw [if_pos zO]
theorem ZFF {l:List Nat}:kn l 0=0:=by
 induction l with
 | nil=>rfl
 | cons x l ih=>simp only [kn,ih];simp
theorem ZFG {n:Nat} (h0:n≠0) (h:n≤15):wt n=2^(15-n):=by
 unfold wt;rw [if_neg h0]
 exact Nat.pow_div h zO (x:=2)
theorem ZvJ {n:Nat} (h:n<15):2^(15-n)=2*2^(15-(n+1)):=by
 rw [show 15-n=(15-(n+1))+1 by omega,Nat.pow_succ];omega
theorem ZFH {l:List Nat}:∀ {n:Nat},n≤15→kn l n=fr l n*2^(15-n)
 | 0,_=>by simp [ZFF,fr]
 | n+1,h=>by
  have ih:=ZFH (l:=l) (n:=n) zO
  rw [Zro,ih]
  by_cases h0:n=0
  ·subst h0;simp [wt,fr,cn]
  ·rw [ZFG h0 zO,ZvJ (n:=n) zO,fr,cn,if_neg h0,←Nat.add_mul,←Nat.mul_assoc,Nat.mul_comm (fr l n+l.count n) 2]
theorem ZDi {l:List Nat} {n:Nat} (h:∀ x∈l,x≤15) (hn:n≤15):(fr l n+cn l n)*2^(15-n)≤Zav l:=by
 have mono:∀ m k,kn l m≤kn l (m+k):=fun m k=>by
  induction k with
  | zero=>exact Nat.le_refl _
  | succ k ih=>rw [show m+(k+1)=m+k+1 by omega,Zro];omega
 have h1:=mono (n+1) (15-n)
 rw [show n+1+(15-n)=16 by omega,ZD3 h,Zro,ZFH hn] at h1
 by_cases h0:n=0
 ·subst h0;simp [fr,cn]
 ·rw [ZFG h0 hn] at h1
  rw [cn,if_neg h0,Nat.add_mul];exact h1
theorem ZDj {l:List Nat} (h:∀ x∈l,x≤15):Zav l=fr l 15+cn l 15:=by
 rw [←ZD3 h,Zro,ZFH (Nat.le_refl _),ZFG zO (Nat.le_refl _),cn,if_neg zO];simp
theorem ZD4 {l:List Nat} {n:Nat}:∀ {d:Nat},(fr l n+cn l n)*2^(d+1)≤fr l (n+(d+1))
 | 0=>by rw [Nat.zero_add];show _≤2*(fr l n+cn l n);omega
 | d+1=>by
  have ih:=ZD4 (l:=l) (n:=n) (d:=d)
  show _≤2*(fr l (n+(d+1))+cn l (n+(d+1)))
  rw [Nat.pow_succ,←Nat.mul_assoc];omega
theorem Zrp {l:List Nat} {s m:Nat} (hs:s<l.length) (hm:l.getD s 0=m) (h0:m≠0):fr l m≤ZaZ l s∧ZaZ l s-fr l m=(l.take s).count m∧(l.take s).count m<cn l m:=by
 have hc:ZaZ l s=fr l m+(l.take s).count m:=by unfold ZaZ;rw [hm,if_neg h0]
 refine ⟨by omega,by omega,?_⟩
 rw [cn,if_neg h0]
 have:=ZfY (n:=m) hs
 rw [if_pos hm.symm] at this
 have h2:(l.take (s+1)).count m≤l.count m:=List.Sublist.count_le m (List.take_sublist _ _)
 omega
theorem ZuL {l:List Nat} {s m:Nat} (hm:l.getD s 0=m) (h0:m≠0):∀ {k:Nat},s<k→k≤l.length→(Zer l k m).getD ((l.take s).count m) 0=s
 | 0,h,_=>by omega
 | k+1,h,hk=>by
  rw [Zfc h0]
  have hlen:(Zer l k m).length=(l.take k).count m:=by rw [ZeW zO,if_neg h0]
  by_cases e:s=k
  ·subst e
   rw [if_pos hm]
   simp only [List.getD]
   rw [List.getElem?_append_right zO,hlen];simp
  ·have ih:=ZuL hm h0 (k:=k) zO zO
   split
   ·simp only [List.getD] at ih ⊢
    have hlt:(l.take s).count m<(Zer l k m).length:=by
     rw [hlen]
     have h1:=ZfY (n:=m) (l:=l) (k:=s) zO
     rw [if_pos hm.symm] at h1
     have h2:(l.take (s+1)).count m≤(l.take k).count m:=by
      have:l.take (s+1)=(l.take k).take (s+1):=by rw [List.take_take];congr 1;omega
      rw [this];exact List.Sublist.count_le m (List.take_sublist _ _)
     omega
    rw [List.getElem?_append_left hlt];exact ih
   ·exact ih
theorem Zrq {l:List Nat} {m j:Nat} (h0:m≠0) (hj:j<cn l m):(Zer l l.length m).getD j 0<l.length∧l.getD ((Zer l l.length m).getD j 0) 0=m∧ZaZ l ((Zer l l.length m).getD j 0)=fr l m+j:=by
 have key:∀ k,k≤l.length→∀ j,j<(Zer l k m).length→(Zer l k m).getD j 0<k∧l.getD ((Zer l k m).getD j 0) 0=m∧(l.take ((Zer l k m).getD j 0)).count m=j:=by
  intro k
  induction k with
  | zero=>intro _ j hj;rw [ZeW zO,if_neg h0] at hj;simp at hj
  | succ k ih =>
   intro hk j hj
   have ih:=ih zO
   have hlen:(Zer l k m).length=(l.take k).count m:=by rw [ZeW zO,if_neg h0]
   rw [Zfc h0] at hj ⊢
   split
   ·rename_i e
    rw [if_pos e,List.length_append,List.length_singleton] at hj
    by_cases hjl:j<(Zer l k m).length
    ·have:=ih j hjl
     have e2:(Zer l k m++[k]).getD j 0=(Zer l k m).getD j 0:=by simp only [List.getD];rw [List.getElem?_append_left hjl]
     rw [e2]
     exact ⟨by omega,this.2.1,this.2.2⟩
    ·have e2:(Zer l k m++[k]).getD j 0=k:=by simp only [List.getD];rw [List.getElem?_append_right zO];simp [show j-(Zer l k m).length=0 by omega]
     rw [e2]
     exact ⟨by omega,e,by omega⟩
   ·rename_i e
    rw [if_neg e] at hj
    have:=ih j hj
    exact ⟨by omega,this.2.1,this.2.2⟩
 have h:=key l.length (Nat.le_refl _) j (by rw [Zjv];exact hj)
 refine ⟨h.1,h.2.1,?_⟩
 unfold ZaZ
 rw [h.2.1,if_neg h0,h.2.2]
theorem Zrr {l:List Nat} (h15:∀ x∈l,x≤15) (hK:Zav l≤32768) {s m:Nat} (hs:s<l.length) (hm:l.getD s 0=m) (h0:m≠0) (hm15:m≤15):ZaZ l s<2^m:=by
 obtain ⟨h1,h2,h3⟩:=Zrp hs hm h0
 have h4:=ZDi h15 hm15
 have h5:(ZaZ l s+1)*2^(15-m)≤2^m*2^(15-m):=by
  rw [←Nat.pow_add,show m+(15-m)=15 by omega]
  refine Nat.le_trans (Nat.mul_le_mul_right _ ?_) (Nat.le_trans h4 hK)
  omega
 exact Nat.le_of_mul_le_mul_right h5 (Nat.pow_pos zO)
theorem ZFI {l:List Nat} (h15:∀ x∈l,x≤15) (hK:Zav l≤32768) {s m:Nat} (hs:s<l.length) (hm:l.getD s 0=m) (h0:m≠0) (hm15:m≤15) {B:List Nat} (hB:m≤B.length) (hrow:∀ j,j<m→B.getD j 0=ZaZ l s / 2^(m-1-j) % 2) :
  nxt l B 15 0 0=(s,m,0):=by
 obtain ⟨h1,h2,h3⟩:=Zrp hs hm h0
 have hlt:=Zrr h15 hK hs hm h0 hm15
 have key:∀ d n,d=m-n→n<m→nxt l B (15-n) n (ZaZ l s / 2^(m-n))=(s,m,0):=by
  intro d
  induction d with
  | zero=>intro n hd hn;omega
  | succ d ih =>
   intro n hd hn
   have hf:15-n=(14-n)+1:=zO
   have hv:2*(ZaZ l s / 2^(m-n))+B.getD n 0=ZaZ l s / 2^(m-(n+1)):=by
    rw [hrow n hn,show m-1-n=m-(n+1) by omega,show m-n=(m-(n+1))+1 by omega,Nat.pow_succ,←Nat.div_div_eq_div_mul]
    omega
   rw [hf,nxt,if_neg zO,hv]
   have hc:ZaZ l s / 2^(m-(n+1))*2^(15-(n+1))<Zav l:=by
    have a1:ZaZ l s / 2^(m-(n+1))*2^(m-(n+1))≤ZaZ l s:=Nat.div_mul_le_self _ _
    have a2:2^(15-(n+1))=2^(m-(n+1))*2^(15-m):=by rw [←Nat.pow_add];congr 1;omega
    have a3:=ZDi h15 hm15
    have a4:ZaZ l s*2^(15-m)<(fr l m+cn l m)*2^(15-m):=Nat.mul_lt_mul_of_pos_right zO (Nat.pow_pos zO)
    rw [a2,←Nat.mul_assoc]
    exact Nat.lt_of_le_of_lt (Nat.mul_le_mul_right _ a1) (Nat.lt_of_lt_of_le a4 a3)
   rw [if_neg zO]
   by_cases e:n+1=m
   ·subst e
    rw [Nat.sub_self,Nat.pow_zero,Nat.div_one,h2,if_pos h3,ZuL hm h0 hs (Nat.le_refl _)]
   ·have hfar:fr l (n+1)+cn l (n+1)≤ZaZ l s / 2^(m-(n+1)):=by
     rw [Nat.le_div_iff_mul_le (Nat.pow_pos zO)]
     have:=ZD4 (l:=l) (n:=n+1) (d:=m-(n+1)-1)
     rw [show m-(n+1)-1+1=m-(n+1) by omega,show n+1+(m-(n+1))=m by omega] at this
     omega
    rw [if_neg zO]
    have:=ih (n+1) zO zO
    rw [show 15-(n+1)=14-n by omega] at this
    exact this
 have:=key m 0 zO zO
 rw [Nat.sub_zero,Nat.sub_zero,Nat.div_eq_of_lt hlt] at this
 exact this
theorem Zjw {l B:List Nat}:∀ (f n v:Nat),(nxt l B f n v).2.2=0→(nxt l B f n v).1<l.length∧n<(nxt l B f n v).2.1
 | 0,n,v,h=>by simp [nxt] at h
 | f+1,n,v,h=>by
  rw [nxt] at h ⊢
  split
  ·rename_i c;rw [if_pos c] at h;simp at h
  ·rename_i c
   rw [if_neg c] at h
   split
   ·rename_i c;rw [if_pos c] at h;simp at h
   ·rename_i c
    rw [if_neg c] at h
    split
    ·rename_i c;exact ⟨(Zrq zO c).1,by simp only;omega⟩
    ·rename_i c
     rw [if_neg c] at h
     have:=Zjw f (n+1) _ h
     exact ⟨this.1,by omega⟩
theorem Zz7 {b:List UInt8} {most s i j:Nat} {d:List Nat} {out o:List UInt8} (h:(Zx1 most d out s).run (Zah b) i = .ok o j):o.length≤most:=by
 rw [Zx1,Zal] at h
 cases h1:(ZoS s).run (Zah b) i with
 | no e=>rw [h1] at h;cases h
 | ok n k =>
  rw [h1] at h
  simp only [BR.bnd] at h
  rw [Zal] at h
  cases h2:(Zx0 d 15 0 0).run (Zah b) k with
  | no e=>rw [h2] at h;cases h
  | ok t k2 =>
   rw [h2] at h
   simp only [BR.bnd] at h
   rw [Zal] at h
   cases h3:(ZpM t).run (Zah b) k2 with
   | no e=>rw [h3] at h;cases h
   | ok z k3 =>
    rw [h3] at h
    simp only [BR.bnd] at h
    split at h
    ·cases h
    ·split at h
     ·cases h
     ·simp only [BT.run,BR.ok.injEq] at h
      rw [←h.1,ZjO];omega
def BE0:=ja5 @unI.eq_1 @unR.eq_1 @rdR.eq_1 @Zab @Zad
def BE1:=ja2 @rdR.eq_1 @Zad
def BE3:=ja8 @unI.eq_1 @unO.eq_1 @unR.eq_1 @rdR.eq_1 @Zab @Zad @okI.eq_1 @noI.eq_1
def BE13:=ja5 @Zba @Zbb @unR.eq_1 @rdR.eq_1 @Zab
def BE17:=ja4 @unR.eq_1 @rdR.eq_1 @cpy.eq_1 @cpy.eq_2
set_option maxHeartbeats 1000000 in
theorem Zz8 [Tabs Tryz.prog] (t:Bool) (most:Nat) (hm:most≤16777216) (nl:Bool) (b:List UInt8) (hb:b.length≤1000000) (i:Nat) (hi:i≤8*b.length) (out:List UInt8) (ho:out.length≤most) (s:Nat) (hs:s<1000) (d:List Nat) (hd:d.length≤320) (hK:Zav d≤32768) :
  Ans Tryz.prog ZeB [.op 1000 0 0,int (s:Int),.fp (.agg (trR d)) 0] (unI t most nl b i out) ((Zx1 most d out s).run (Zah b) i) (fun _=>int 0) (fun o j=>unO 500 t most nl b j o) (fun e=>int (e:Int)) 600:=by
 rw [Zx1,Zal]
 have hL:=ZsP t most nl b hb i hi out s hs
 have hLi:=fun a j (h:(ZoS s).run (Zah b) i = .ok a j)=>(Zh1 h).2 (by rw [Zac];exact hi)
 have hn58:=fun a j (h:(ZoS s).run (Zah b) i = .ok a j)=>ZFD h
 obtain ⟨r1,hr1⟩:∃ r,r=(ZoS s).run (Zah b) i:=⟨_,rfl⟩
 rw [←hr1] at hL hLi hn58 ⊢
 cases r1 with
 | no e1 =>
  have de:decide ((e1:Int)=0)=false:=decide_eq_false (by have:=hL.1;omega)
  refine ⟨hL.1,HCon.of' mix Tryz.func92 rfl Tryz.ntmps92 Za4 Za5 zB (by simp only [AV.gl.glL,AV.gl,int,and_true];exact ⟨by omega,trivial,Zag 1 _ Zb9⟩) Zfe ?_⟩
  unfold ZaP
  repeat (first|refine zS ?_|exact zT)
  refine Zae [(1000,0),(1001,0),(1002,0)] 2000 hL.2 zB zB ?_ ?_ ?_
  iterate 2 (case _=>(first|exact yU BE0|refine yR BE0 ?_))
  repeat (first|refine zR (ja8 @unI.eq_1 @unO.eq_1 @unR.eq_1 @rdR.eq_1 @Zab @Zad @okI.eq_1 (ja2 @noI.eq_1 @de)) ?_|exact zU (ja8 @unI.eq_1 @unO.eq_1 @unR.eq_1 @rdR.eq_1 @Zab @Zad @okI.eq_1 (ja2 @noI.eq_1 @de)))
 | ok n j =>
  have hj:=hLi n j rfl
  have hn:=hn58 n j rfl
  rw [Zac] at hj
  clear hr1 hLi hn58
  simp only [BR.bnd]
  rw [Zal,ZmY]
  have hfc:=Zh0 (l:=d) (B:=(Zah b).drop j) 15 0 0 (Nat.zero_le _)
  have hsy:=Zjw (l:=d) (B:=(Zah b).drop j) 15 0 0
  have hN:=Zlc d hd hK nl b hb j hj _ rfl
  rw [List.length_drop,Zac] at hfc
  obtain ⟨⟨sy,m,e⟩,hr2⟩:∃ r,r=nxt d ((Zah b).drop j) 15 0 0:=⟨_,rfl⟩
  rw [←hr2] at hfc hsy hN ⊢
  simp only at hfc hsy hN
  clear hr2
  by_cases c2:e=0
  ·subst c2
   have hsy:=hsy rfl
   obtain ⟨q,hq⟩:∃ q,q=j+m:=⟨_,rfl⟩
   have hq8:q≤8*b.length:=zO
   simp only [Zys,if_true,BR.bnd]
   rw [←hq] at hN ⊢
   rw [Zal]
   have hD:=ZpQ t most nl b hb q hq8 out sy zO
   have hDi:=fun a j (h:(ZpM sy).run (Zah b) q = .ok a j)=>(Zh1 h).2 (by rw [Zac];exact hq8)
   have hD8:=fun a j (h:(ZpM sy).run (Zah b) q = .ok a j)=>ZFE h
   obtain ⟨r3,hr3⟩:∃ r,r=(ZpM sy).run (Zah b) q:=⟨_,rfl⟩
   rw [←hr3] at hD hDi hD8 ⊢
   cases r3 with
   | no e3 =>
    have de:decide ((e3:Int)=0)=false:=decide_eq_false (by have:=hD.1;omega)
    refine ⟨hD.1,HCon.of' mix Tryz.func92 rfl Tryz.ntmps92 Za4 Za5 zB (by simp only [AV.gl.glL,AV.gl,int,and_true];exact ⟨by omega,trivial,Zag 1 _ Zb9⟩) Zfe ?_⟩
    unfold ZaP
    repeat (first|refine zS ?_|exact zT)
    refine Zae [(1000,0),(1001,0),(1002,0)] 2000 hL zB zB ?_ ?_ ?_
    iterate 2 (case _=>(first|exact yU BE0|refine yR BE0 ?_))
    repeat (first|refine zR BE3 ?_|exact zU BE3)
    refine Zae [(1001,0)] 3000 hN zB zB ?_ ?_ ?_
    iterate 2 (case _=>(first|exact yU BE1|refine yR BE1 ?_))
    repeat (first|refine zR BE3 ?_|exact zU BE3)
    refine Zae [(1000,0),(1001,0),(1002,0)] 4000 hD.2 zB zB ?_ ?_ ?_
    iterate 2 (case _=>(first|exact yU BE0|refine yR BE0 ?_))
    repeat (first|refine zR (ja8 @unI.eq_1 @unO.eq_1 @unR.eq_1 @rdR.eq_1 @Zab @Zad @okI.eq_1 (ja2 @noI.eq_1 @de)) ?_|exact zU (ja8 @unI.eq_1 @unO.eq_1 @unR.eq_1 @rdR.eq_1 @Zab @Zad @okI.eq_1 (ja2 @noI.eq_1 @de)))
   | ok k j2 =>
    have hj2:=hDi k j2 rfl
    have hk:=hD8 k j2 rfl
    rw [Zac] at hj2
    clear hr3 hDi hD8
    simp only [BR.bnd]
    by_cases c3:out.length<k
    ·rw [if_pos c3]
     have d3:decide ((out.length:Int)<(k:Int))=true:=decide_eq_true zO
     refine ⟨by omega,HCon.of' mix Tryz.func92 rfl Tryz.ntmps92 Za4 Za5 zB (by simp only [AV.gl.glL,AV.gl,int,and_true];exact ⟨by omega,trivial,Zag 1 _ Zb9⟩) Zfe ?_⟩
     unfold ZaP
     repeat (first|refine zS ?_|exact zT)
     refine Zae [(1000,0),(1001,0),(1002,0)] 2000 hL zB zB ?_ ?_ ?_
     iterate 2 (case _=>(first|exact yU BE0|refine yR BE0 ?_))
     repeat (first|refine zR BE3 ?_|exact zU BE3)
     refine Zae [(1001,0)] 3000 hN zB zB ?_ ?_ ?_
     iterate 2 (case _=>(first|exact yU BE1|refine yR BE1 ?_))
     repeat (first|refine zR BE3 ?_|exact zU BE3)
     refine Zae [(1000,0),(1001,0),(1002,0)] 4000 hD zB zB ?_ ?_ ?_
     iterate 2 (case _=>(first|exact yU BE0|refine yR BE0 ?_))
     repeat (first|refine zR (ja8 @unI.eq_1 @unO.eq_1 @unR.eq_1 @rdR.eq_1 @Zab @Zad @okI.eq_1 (ja2 @noI.eq_1 @d3)) ?_|exact zU (ja8 @unI.eq_1 @unO.eq_1 @unR.eq_1 @rdR.eq_1 @Zab @Zad @okI.eq_1 (ja2 @noI.eq_1 @d3)))
    ·rw [if_neg c3]
     have d3:decide ((out.length:Int)<(k:Int))=false:=decide_eq_false zO
     by_cases c4:most<out.length+n
     ·rw [if_pos c4]
      have d4:decide (((most-out.length:Nat):Int)<(n:Int))=true:=decide_eq_true zO
      refine ⟨by omega,HCon.of' mix Tryz.func92 rfl Tryz.ntmps92 Za4 Za5 zB (by simp only [AV.gl.glL,AV.gl,int,and_true];exact ⟨by omega,trivial,Zag 1 _ Zb9⟩) Zfe ?_⟩
      unfold ZaP
      repeat (first|refine zS ?_|exact zT)
      refine Zae [(1000,0),(1001,0),(1002,0)] 2000 hL zB zB ?_ ?_ ?_
      iterate 2 (case _=>(first|exact yU BE0|refine yR BE0 ?_))
      repeat (first|refine zR BE3 ?_|exact zU BE3)
      refine Zae [(1001,0)] 3000 hN zB zB ?_ ?_ ?_
      iterate 2 (case _=>(first|exact yU BE1|refine yR BE1 ?_))
      repeat (first|refine zR BE3 ?_|exact zU BE3)
      refine Zae [(1000,0),(1001,0),(1002,0)] 4000 hD zB zB ?_ ?_ ?_
      iterate 2 (case _=>(first|exact yU BE0|refine yR BE0 ?_))
      repeat (first|refine zR (ja8 @unI.eq_1 @unO.eq_1 @unR.eq_1 @rdR.eq_1 @Zab @Zad @okI.eq_1 (ja2 @noI.eq_1 @d3)) ?_|exact zU (ja8 @unI.eq_1 @unO.eq_1 @unR.eq_1 @rdR.eq_1 @Zab @Zad @okI.eq_1 (ja2 @noI.eq_1 @d3)))
      refine Zae [(1000,0),(1001,0),(1002,0)] 5000 (Zh3 t most hm nl b j2 out ho) zB zB ?_ ?_ ?_
      iterate 2 (case _=>(first|exact yU BE0|refine yR BE0 ?_))
      repeat (first|refine zR (ja8 @unI.eq_1 @unO.eq_1 @unR.eq_1 @rdR.eq_1 @Zab @Zad @okI.eq_1 (ja2 @noI.eq_1 @d4)) ?_|exact zU (ja8 @unI.eq_1 @unO.eq_1 @unR.eq_1 @rdR.eq_1 @Zab @Zad @okI.eq_1 (ja2 @noI.eq_1 @d4)))
     ·rw [if_neg c4]
      have d4:decide (((most-out.length:Nat):Int)<(n:Int))=false:=decide_eq_false zO
      refine HCon.of' mix Tryz.func92 rfl Tryz.ntmps92 Za4 Za5 zB (by simp only [AV.gl.glL,AV.gl,int,and_true];exact ⟨by omega,trivial,Zag 1 _ Zb9⟩) Zfe ?_
      unfold ZaP
      repeat (first|refine zS ?_|exact zT)
      refine Zae [(1000,0),(1001,0),(1002,0)] 2000 hL zB zB ?_ ?_ ?_
      iterate 2 (case _=>(first|exact yU BE0|refine yR BE0 ?_))
      repeat (first|refine zR BE3 ?_|exact zU BE3)
      refine Zae [(1001,0)] 3000 hN zB zB ?_ ?_ ?_
      iterate 2 (case _=>(first|exact yU BE1|refine yR BE1 ?_))
      repeat (first|refine zR BE3 ?_|exact zU BE3)
      refine Zae [(1000,0),(1001,0),(1002,0)] 4000 hD zB zB ?_ ?_ ?_
      iterate 2 (case _=>(first|exact yU BE0|refine yR BE0 ?_))
      repeat (first|refine zR (ja8 @unI.eq_1 @unO.eq_1 @unR.eq_1 @rdR.eq_1 @Zab @Zad @okI.eq_1 (ja2 @noI.eq_1 @d3)) ?_|exact zU (ja8 @unI.eq_1 @unO.eq_1 @unR.eq_1 @rdR.eq_1 @Zab @Zad @okI.eq_1 (ja2 @noI.eq_1 @d3)))
      refine Zae [(1000,0),(1001,0),(1002,0)] 5000 (Zh3 t most hm nl b j2 out ho) zB zB ?_ ?_ ?_
      iterate 2 (case _=>(first|exact yU BE0|refine yR BE0 ?_))
      repeat (first|refine zR (ja8 @unI.eq_1 @unO.eq_1 @unR.eq_1 @rdR.eq_1 @Zab @Zad @okI.eq_1 (ja2 @noI.eq_1 @d4)) ?_|exact zU (ja8 @unI.eq_1 @unO.eq_1 @unR.eq_1 @rdR.eq_1 @Zab @Zad @okI.eq_1 (ja2 @noI.eq_1 @d4)))
      refine SWp.loop (α:=Nat × Nat) (fun x=>mk 77 (202+x.1) [(0,.op 1000 0 0),(9,int (k:Int)),(51,int (n:Int)),(52,int (x.1:Int))] [(1000,0,.row false (unR t most x.2 (out.length+x.1))),(1001,0,.row false (rdR nl b j2)),(1002,x.2,.row (nl0 (out.length+x.1)) ((cpy out k x.1).map u8))])
       (fun x=>x.1≤n) (fun x=>n-x.1) (0,0) (Nat.zero_le _) (Zaj rfl ?_ ?_ ?_) ?_
      ·exact Nat.le_refl _
      iterate 2 (case _=>(first|exact yU BE17|refine yR BE17 ?_))
      rintro ⟨x,g⟩ hx -
      simp only at hx
      have hcl:=ZjO (k:=k) (n:=x) (out:=out)
      have hcs:=Zn5 (k:=k) (n:=x) (out:=out)
      obtain ⟨c,hc⟩:∃ c,c=cpy out k x:=⟨_,rfl⟩
      rw [←hc] at hcl hcs ⊢
      rw [hcl] at hcs
      repeat (first|refine zS ?_|exact zT)
      refine SWp.cond rfl (fun h=>?_) (fun h=>?_)
      ·simp only [decide_eq_true_eq] at h
       obtain ⟨z,hz⟩:∃ z,z=out.length+x-k:=⟨_,rfl⟩
       have ez:(out.length:Int)+(x:Int)-(k:Int)=(z:Int):=zO
       rw [←hz] at hcs
       obtain ⟨v,hv⟩:∃ v,v=c.getD z 0:=⟨_,rfl⟩
       rw [←hv] at hcs
       have hn0:nl0 (out.length+(x+1))=false:=Zca zO
       repeat (first|refine zR (ja5 @unR.eq_1 @hcl @ez hv.symm @Zh2) ?_|exact zU (ja5 @unR.eq_1 @hcl @ez hv.symm @Zh2))
       refine At.of (x+1,202+x) (by simp only;omega) (by simp only;omega) rfl rfl ?_ ?_ ?_
       ·simp only;omega
       iterate 2 (case _=>(first|exact yU (ja4 @unR.eq_1 @hcs @hn0 @Nat.add_assoc)|refine yR (ja4 @unR.eq_1 @hcs @hn0 @Nat.add_assoc) ?_))
      ·simp only [decide_eq_false_iff_not] at h
       obtain rfl:x=n:=zO
       refine SWp.le (Zaj (N:=77) (gc:=500) (l:=[]) (h:=[(1000,0,.row false (unR t most g (out.length+x))),(1001,0,.row false (rdR nl b j2)),(1002,g,.row (nl0 (out.length+x)) (c.map u8))]) rfl ?_ ?_ ?_) ?_
       ·simp only;omega
       iterate 2 (case _=>(first|exact yT|refine yS ?_))
       refine SWp.renew 1002 g (o:=.row (nl0 (out.length+x)) (c.map u8)) yT ?_
       refine SWp.le (Zaj (N:=77) (gc:=501) (l:=[]) (h:=[(1000,0,.row false (unR t most 500 (out.length+x))),(1001,0,.row false (rdR nl b j2)),(1002,500,.row (nl0 (out.length+x)) (c.map u8))]) rfl ?_ ?_ ?_) ?_
       ·exact Nat.le_refl _
       iterate 2 (case _=>(first|exact yU BE13|refine yR BE13 ?_))
       repeat (first|refine zR (ja5 @unO.eq_1 @unR.eq_1 @rdR.eq_1 @hcl hc.symm) ?_|exact zU (ja5 @unO.eq_1 @unR.eq_1 @rdR.eq_1 @hcl hc.symm))
  ·simp only [Zys,if_neg c2,BR.bnd]
   have he:e≠0∧e≤10:=zO
   have de:decide ((e:Int)=0)=false:=decide_eq_false zO
   refine ⟨he,HCon.of' mix Tryz.func92 rfl Tryz.ntmps92 Za4 Za5 zB (by simp only [AV.gl.glL,AV.gl,int,and_true];exact ⟨by omega,trivial,Zag 1 _ Zb9⟩) Zfe ?_⟩
   unfold ZaP
   repeat (first|refine zS ?_|exact zT)
   refine Zae [(1000,0),(1001,0),(1002,0)] 2000 hL zB zB ?_ ?_ ?_
   iterate 2 (case _=>(first|exact yU BE0|refine yR BE0 ?_))
   repeat (first|refine zR BE3 ?_|exact zU BE3)
   refine Zae [(1001,0)] 3000 hN zB zB ?_ ?_ ?_
   iterate 2 (case _=>(first|exact yU BE1|refine yR BE1 ?_))
   repeat (first|refine zR (ja8 @unI.eq_1 @unO.eq_1 @unR.eq_1 @rdR.eq_1 @Zab @Zad @okI.eq_1 (ja2 @noI.eq_1 @de)) ?_|exact zU (ja8 @unI.eq_1 @unO.eq_1 @unR.eq_1 @rdR.eq_1 @Zab @Zad @okI.eq_1 (ja2 @noI.eq_1 @de)))
def ZcJ {α:Type}:BR α→AV
 | .ok _ _=>int 0
 | .no e=>int (e:Int)
def ZcK (K:Nat) (t:Bool) (most:Nat) (nl:Bool) (b:List UInt8):BR (List UInt8)→List (Nat × Nat × AO)
 | .ok o j=>unO K t most nl b j o
 | .no _=>[]
def BE4:=ja2 @cds.eq_1 @unR.eq_1
def BE6:=ja4 @ZcJ.eq_1 @ZcJ.eq_2 @ZcK.eq_1 @ZcK.eq_2
def BE14:=ja4 @unO.eq_1 @unR.eq_1 @rdR.eq_1 @Zab
def BE15:=ja2 @unR.eq_1 @rdR.eq_1
def BE18:=ja4 @cds.eq_1 @unR.eq_1 @rdR.eq_1 @Zbi
def BE19:=ja7 @ZcJ.eq_1 @ZcJ.eq_2 @ZcK.eq_1 @ZcK.eq_2 @unO.eq_1 @unR.eq_1 @rdR.eq_1
set_option maxHeartbeats 1000000 in
theorem Zl5 [Tabs Tryz.prog] (t:Bool) (most:Nat) (hm:most≤16777216) (nl:Bool) (b:List UInt8) (hb:b.length≤1000000) (i:Nat) (hi:i≤8*b.length) (out:List UInt8) (ho:out.length≤most)
  (l d:List Nat) (hl:l.length≤320) (hKl:Zav l≤32768) (hd:d.length≤320) (hK:Zav d≤32768) (F:Nat) (hF:8*b.length-i<F) (r:BR (List UInt8)) (hr:(ZoT l d most F out).run (Zah b) i=r) :
  HCon Tryz.prog Zb3 [.op 1000 0 0,cds l d] (unI t most nl b i out) (ZcJ r) (ZcK (1000*F+1) t most nl b r) (1000*F+2):=by
 refine HCon.of' mix Tryz.func46 rfl Tryz.ntmps46 ZgM ZgN zB (by simp only [AV.gl.glL,AV.gl,and_true];exact ⟨by omega,ZbP 1 _ Zl4⟩) Zfe ?_
 unfold Zdd
 repeat (first|refine zS ?_|exact zT)
 refine SWp.loop (α:=Nat × List UInt8 × Nat × Nat × Nat) (fun x=>mk 45 x.2.2.2.2 [(0,.op 1000 0 0),(1,cds l d)] [(1000,0,.row false (unR t most x.2.2.2.1 x.2.1.length)),(1001,0,.row false (rdR nl b x.2.2.1)),(1002,x.2.2.2.1,.row (nl0 x.2.1.length) (x.2.1.map u8))])
  (fun x=>(ZoT l d most x.1 x.2.1).run (Zah b) x.2.2.1=r∧x.2.2.1≤8*b.length∧8*b.length-x.2.2.1<x.1∧x.2.1.length≤most∧x.2.2.2.2+1000*x.1≤1000*F+1) (fun x=>x.1) (F,out,i,0,1) ⟨hr,hi,hF,ho,by simp only;omega⟩ (Zaj rfl ?_ ?_ ?_) ?_
 ·exact Nat.le_refl _
 iterate 2 (case _=>(first|exact yU @unI.eq_1|refine yR @unI.eq_1 ?_))
 rintro ⟨f,o,p,g,c⟩ ⟨hx,hp,hf,hom,hc⟩ -
 simp only at hx hp hf hom hc
 obtain ⟨f,rfl⟩:∃ f',f=f'+1:=⟨f-1,by omega⟩
 rw [ZoT,Zal,ZmY] at hx
 have hfc:=Zh0 (l:=l) (B:=(Zah b).drop p) 15 0 0 (Nat.zero_le _)
 have hsy:=Zjw (l:=l) (B:=(Zah b).drop p) 15 0 0
 have hN:=Zlc l hl hKl nl b hb p hp _ rfl
 rw [List.length_drop,Zac] at hfc
 obtain ⟨⟨sy,m,e⟩,hr2⟩:∃ r,r=nxt l ((Zah b).drop p) 15 0 0:=⟨_,rfl⟩
 rw [←hr2] at hfc hsy hN hx
 simp only at hfc hsy hN
 clear hr2 hr
 by_cases c2:e=0
 ·subst c2
  have hsy:=hsy rfl
  obtain ⟨q,hq⟩:∃ q,q=p+m:=⟨_,rfl⟩
  have hq8:q≤8*b.length:=zO
  simp only [Zys,if_true,BR.bnd] at hx
  rw [←hq] at hN hx
  by_cases c3:sy<256
  ·rw [if_pos c3] at hx
   have d3:decide ((sy:Int)<256)=true:=decide_eq_true zO
   obtain ⟨v,rfl⟩:∃ v:UInt8,sy=v.toNat:=⟨UInt8.ofNat sy,by rw [UInt8.toNat_ofNat',Nat.mod_eq_of_lt zO]⟩
   rw [UInt8.ofNat_toNat] at hx
   have hv:=v.toNat_lt
   by_cases c4:most≤o.length
   ·rw [if_pos c4] at hx
    simp only [BT.run] at hx
    subst hx
    have hL:=ZpP t most hm nl b q o hom v c4
    repeat (first|refine zR BE4 ?_|exact zU BE4)
    refine Zae [(1001,0)] 2000 hN zB zB ?_ ?_ ?_
    iterate 2 (case _=>(first|exact yU BE1|refine yR BE1 ?_))
    repeat (first|refine zR (ja3 @unR.eq_1 @rdR.eq_1 @d3) ?_|exact zU (ja3 @unR.eq_1 @rdR.eq_1 @d3))
    refine Zae [(1000,0),(1001,0),(1002,g)] 3000 hL zB zB ?_ ?_ ?_
    iterate 2 (case _=>(first|exact yU BE2|refine yR BE2 ?_))
    repeat (first|refine zR BE6 ?_|exact zU BE6)
    omega
   ·rw [if_neg c4] at hx
    have hL:=Zrn t most hm nl b q o zO v
    repeat (first|refine zR BE4 ?_|exact zU BE4)
    refine Zae [(1001,0)] 2000 hN zB zB ?_ ?_ ?_
    iterate 2 (case _=>(first|exact yU BE1|refine yR BE1 ?_))
    repeat (first|refine zR (ja3 @unR.eq_1 @rdR.eq_1 @d3) ?_|exact zU (ja3 @unR.eq_1 @rdR.eq_1 @d3))
    refine Zae [(1000,0),(1001,0),(1002,g)] 3000 hL zB zB ?_ ?_ ?_
    iterate 2 (case _=>(first|exact yU BE2|refine yR BE2 ?_))
    repeat (first|refine zR BE14 ?_|exact zU BE14)
    refine At.of (f,o++[v],q,c+100+2,c+110) ⟨hx,hq8,by simp only;omega,by simp only [List.length_append,List.length_singleton];omega,by simp only;omega⟩ (by simp only;omega) rfl rfl ?_ ?_ ?_
    ·simp only;omega
    iterate 2 (case _=>(first|exact yU BE18|refine yR BE18 ?_))
  ·rw [if_neg c3] at hx
   have d3:decide ((sy:Int)<256)=false:=decide_eq_false zO
   by_cases c4:sy=256
   ·rw [if_pos c4] at hx
    simp only [BT.run] at hx
    subst hx c4
    repeat (first|refine zR BE4 ?_|exact zU BE4)
    refine Zae [(1001,0)] 2000 hN zB zB ?_ ?_ ?_
    iterate 2 (case _=>(first|exact yU BE1|refine yR BE1 ?_))
    iterate 1 (first|refine zR BE15 ?_|exact zU BE15)
    refine SWp.le (Zaj (N:=45) (gc:=1000*F+1) (l:=[(0,.op 1000 0 0),(5,int 256),(6,int 0)]) (h:=[(1000,0,.row false (unR t most g o.length)),(1001,0,.row false (rdR nl b q)),(1002,g,.row (nl0 o.length) (o.map u8))]) rfl ?_ ?_ ?_) ?_
    ·simp only;omega
    iterate 2 (case _=>(first|exact yU BE15|refine yR BE15 ?_))
    refine SWp.renew 1002 g (o:=.row (nl0 o.length) (o.map u8)) yT ?_
    refine SWp.le (Zaj (N:=45) (gc:=1000*F+2) (l:=[(0,.op 1000 0 0),(5,int 256),(6,int 0)]) (h:=[(1000,0,.row false (unR t most (1000*F+1) o.length)),(1001,0,.row false (rdR nl b q)),(1002,1000*F+1,.row (nl0 o.length) (o.map u8))]) rfl ?_ ?_ ?_) ?_
    ·exact Nat.le_refl _
    iterate 2 (case _=>(first|exact yU BE13|refine yR BE13 ?_))
    repeat (first|refine zR BE19 ?_|exact zU BE19)
   ·rw [if_neg c4] at hx
    have d4:decide ((sy:Int)=256)=false:=decide_eq_false zO
    have es:(sy:Int)-256-1=((sy-257:Nat):Int):=zO
    rw [Zal] at hx
    have hR:=Zz8 t most hm nl b hb q hq8 o hom (sy-257) zO d hd hK
    obtain ⟨z,hz⟩:∃ z,z=sy-257:=⟨_,rfl⟩
    rw [←hz] at hR hx es
    have hRi:=fun a j (h:(Zx1 most d o z).run (Zah b) q = .ok a j)=>Zh1 h
    have hRm:=fun a j (h:(Zx1 most d o z).run (Zah b) q = .ok a j)=>Zz7 h
    rw [Zac] at hRi
    obtain ⟨r3,hr3⟩:∃ r,r=(Zx1 most d o z).run (Zah b) q:=⟨_,rfl⟩
    rw [←hr3] at hR hRi hRm hx
    cases r3 with
    | no e3 =>
     simp only [BR.bnd] at hx
     subst hx
     have de:decide ((e3:Int)=0)=false:=decide_eq_false (by have:=hR.1;omega)
     repeat (first|refine zR BE4 ?_|exact zU BE4)
     refine Zae [(1001,0)] 2000 hN zB zB ?_ ?_ ?_
     iterate 2 (case _=>(first|exact yU BE1|refine yR BE1 ?_))
     repeat (first|refine zR (ja5 @unR.eq_1 @rdR.eq_1 @d3 @d4 @es) ?_|exact zU (ja5 @unR.eq_1 @rdR.eq_1 @d3 @d4 @es))
     refine Zae [(1000,0),(1001,0),(1002,g)] 3000 hR.2 zB zB ?_ ?_ ?_
     iterate 2 (case _=>(first|exact yU BE0|refine yR BE0 ?_))
     repeat (first|refine zR (ja5 @ZcJ.eq_1 @ZcJ.eq_2 @ZcK.eq_1 @ZcK.eq_2 @de) ?_|exact zU (ja5 @ZcJ.eq_1 @ZcJ.eq_2 @ZcK.eq_1 @ZcK.eq_2 @de))
     omega
    | ok o2 j =>
     have hj:=hRi o2 j rfl
     have hm2:=hRm o2 j rfl
     simp only [BR.bnd] at hx
     repeat (first|refine zR BE4 ?_|exact zU BE4)
     refine Zae [(1001,0)] 2000 hN zB zB ?_ ?_ ?_
     iterate 2 (case _=>(first|exact yU BE1|refine yR BE1 ?_))
     repeat (first|refine zR (ja5 @unR.eq_1 @rdR.eq_1 @d3 @d4 @es) ?_|exact zU (ja5 @unR.eq_1 @rdR.eq_1 @d3 @d4 @es))
     refine Zae [(1000,0),(1001,0),(1002,g)] 3000 hR zB zB ?_ ?_ ?_
     iterate 2 (case _=>(first|exact yU BE0|refine yR BE0 ?_))
     repeat (first|refine zR BE14 ?_|exact zU BE14)
     refine At.of (f,o2,j,c+100+500,c+700) ⟨hx,hj.2 hq8,by simp only;omega,hm2,by simp only;omega⟩ (by simp only;omega) rfl rfl ?_ ?_ ?_
     ·simp only;omega
     iterate 2 (case _=>(first|exact yU (ja3 @cds.eq_1 @unR.eq_1 @rdR.eq_1)|refine yR (ja3 @cds.eq_1 @unR.eq_1 @rdR.eq_1) ?_))
 ·simp only [Zys,if_neg c2,BR.bnd] at hx
  have de:decide ((e:Int)=0)=false:=decide_eq_false zO
  subst hx
  repeat (first|refine zR BE4 ?_|exact zU BE4)
  refine Zae [(1001,0)] 2000 hN zB zB ?_ ?_ ?_
  iterate 2 (case _=>(first|exact yU BE1|refine yR BE1 ?_))
  repeat (first|refine zR (ja5 @ZcJ.eq_1 @ZcJ.eq_2 @ZcK.eq_1 @ZcK.eq_2 @de) ?_|exact zU (ja5 @ZcJ.eq_1 @ZcJ.eq_2 @ZcK.eq_1 @ZcK.eq_2 @de))
  omega
def BE5:=ja2 @rdR.eq_1 @unR.eq_1
set_option maxHeartbeats 1000000 in
theorem ZsQ [Tabs Tryz.prog] (t:Bool) (most:Nat) (hm:most≤16777216) (nl:Bool) (b:List UInt8) (hb:b.length≤1000000) (hnl:nl=true→b=[]) (i:Nat) (hi:i≤8*b.length) (out:List UInt8) (ho:out.length≤most) (r:BR (List UInt8)) (hr:(ZDa most out).run (Zah b) i=r) :
  HCon Tryz.prog Zdu [.op 1000 0 0] (unI t most nl b i out) (ZcJ r) (ZcK 73 t most nl b r) 80:=by
 refine HCon.of' mix Tryz.func44 rfl Tryz.ntmps44 Zhj Zhk zB (by simp [AV.gl,AV.gl.glL]) Zfe ?_
 unfold Zdx
 rw [ZvD hi] at hr
 obtain ⟨q,hq⟩:∃ q,q=(i+7) / 8:=⟨_,rfl⟩
 rw [←hq] at hr
 have hAl:=Zjr nl b hb i hi
 rw [←hq] at hAl
 repeat (first|refine zR BE7 ?_|exact zU BE7)
 refine Zae [(1001,0)] 2000 hAl zB zB ?_ ?_ ?_
 iterate 2 (case _=>(first|exact yU @rdR.eq_1|refine yR @rdR.eq_1 ?_))
 by_cases c1:8*b.length<q*8+16
 ·rw [if_pos c1] at hr
  subst hr
  have hT:=Zd2 nl b hb (q*8) zO 16 (decide_eq_false zO)
  repeat (first|refine zR BE5 ?_|exact zU BE5)
  refine Zae [(1001,0)] 3000 hT zB zB ?_ ?_ ?_
  iterate 2 (case _=>(first|exact yU @rdR.eq_1|refine yR @rdR.eq_1 ?_))
  repeat (first|refine zR BE6 ?_|exact zU BE6)
 ·rw [if_neg c1] at hr
  have hT:=ZeV nl b hb (q*8) zO 16 zO zO
  have hx1:=Ze1 (b:=b) (i:=q*8) (n:=16)
  obtain ⟨x,hx⟩:∃ x,x=ZaY b (q*8) 16:=⟨_,rfl⟩
  rw [←hx] at hT hr hx1
  repeat (first|refine zR BE5 ?_|exact zU BE5)
  refine Zae [(1001,0)] 3000 hT zB zB ?_ ?_ ?_
  iterate 2 (case _=>(first|exact yU @rdR.eq_1|refine yR @rdR.eq_1 ?_))
  by_cases c2:8*b.length<q*8+32
  ·rw [if_pos c2] at hr
   subst hr
   have hT:=Zd2 nl b hb (q*8+16) zO 16 (decide_eq_false zO)
   repeat (first|refine zR BE5 ?_|exact zU BE5)
   refine Zae [(1001,0)] 4000 hT zB zB ?_ ?_ ?_
   iterate 2 (case _=>(first|exact yU @rdR.eq_1|refine yR @rdR.eq_1 ?_))
   repeat (first|refine zR BE6 ?_|exact zU BE6)
  ·rw [if_neg c2] at hr
   have hT:=ZeV nl b hb (q*8+16) zO 16 zO zO
   have hy1:=Ze1 (b:=b) (i:=q*8+16) (n:=16)
   obtain ⟨y,hy⟩:∃ y,y=ZaY b (q*8+16) 16:=⟨_,rfl⟩
   rw [←hy] at hT hr hy1
   repeat (first|refine zR BE5 ?_|exact zU BE5)
   refine Zae [(1001,0)] 4000 hT zB zB ?_ ?_ ?_
   iterate 2 (case _=>(first|exact yU @rdR.eq_1|refine yR @rdR.eq_1 ?_))
   by_cases c3:x+y≠65535
   ·rw [if_pos c3] at hr
    subst hr
    have d3:decide ((x:Int)+(y:Int)=65535)=false:=decide_eq_false zO
    repeat (first|refine zR (ja5 @ZcJ.eq_1 @ZcJ.eq_2 @ZcK.eq_1 @ZcK.eq_2 @d3) ?_|exact zU (ja5 @ZcJ.eq_1 @ZcJ.eq_2 @ZcK.eq_1 @ZcK.eq_2 @d3))
   ·rw [if_neg c3] at hr
    have d3:decide ((x:Int)+(y:Int)=65535)=true:=decide_eq_true zO
    have ej:q+4=(q*8+16+16+7) / 8:=zO
    by_cases c4:b.length<q+4+x
    ·rw [if_pos c4] at hr
     subst hr
     have hB:=Zrf nl b hb (q*8+16+16) zO (x:Int) (decide_eq_false zO)
     repeat (first|refine zR (ja3 @d3 @rdR.eq_1 @unR.eq_1) ?_|exact zU (ja3 @d3 @rdR.eq_1 @unR.eq_1))
     refine Zae [(1001,0)] 5000 hB zB zB ?_ ?_ ?_
     iterate 2 (case _=>(first|exact yU @rdR.eq_1|refine yR @rdR.eq_1 ?_))
     repeat (first|refine zR BE6 ?_|exact zU BE6)
    ·rw [if_neg c4] at hr
     have hB:=ZsF nl b hb hnl (q*8+16+16) zO (q+4) ej x zO
     have hlen:((b.drop (q+4)).take x).length=x:=by rw [List.length_take,List.length_drop];omega
     obtain ⟨z,hz⟩:∃ z,z=(b.drop (q+4)).take x:=⟨_,rfl⟩
     rw [←hz] at hB hr hlen
     have hRo:=Zh3 t most hm nl b (8*(q+4+x)) out ho
     repeat (first|refine zR (ja3 @d3 @rdR.eq_1 @unR.eq_1) ?_|exact zU (ja3 @d3 @rdR.eq_1 @unR.eq_1))
     refine Zae [(1001,0)] 5000 hB zB zB ?_ ?_ ?_
     iterate 2 (case _=>(first|exact yU @rdR.eq_1|refine yR @rdR.eq_1 ?_))
     repeat (first|refine zR BE5 ?_|exact zU BE5)
     refine Zae [(1000,0),(1001,0),(1002,0)] 6000 hRo zB zB ?_ ?_ ?_
     iterate 2 (case _=>(first|exact yU BE2|refine yR BE2 ?_))
     by_cases c5:most<out.length+x
     ·rw [if_pos c5] at hr
      subst hr
      have d5:decide (((most-out.length:Nat):Int)<(x:Int))=true:=decide_eq_true zO
      repeat (first|refine zR (ja5 @ZcJ.eq_1 @ZcJ.eq_2 @ZcK.eq_1 @ZcK.eq_2 @d5) ?_|exact zU (ja5 @ZcJ.eq_1 @ZcJ.eq_2 @ZcK.eq_1 @ZcK.eq_2 @d5))
     ·rw [if_neg c5] at hr
      subst hr
      have d5:decide (((most-out.length:Nat):Int)<(x:Int))=false:=decide_eq_false zO
      have hn0:nl0 (out.length+x)=(nl0 out.length&&(z.map u8).isEmpty):=by
       cases out with
       | nil=>cases z with
           | nil=>simp at hlen;subst hlen;rfl
           | cons a z=>simp at hlen;rw [←hlen];rfl
       | cons a out=>simp only [List.length_cons];rw [Zca zO,Zca zO];rfl
      repeat (first|refine zR (ja8 @ZcJ.eq_1 @ZcJ.eq_2 @ZcK.eq_1 @ZcK.eq_2 @d5 @unO.eq_1 @unR.eq_1 (ja5 @rdR.eq_1 @Zab @Zh2 @hlen @hn0)) ?_|exact zU (ja8 @ZcJ.eq_1 @ZcJ.eq_2 @ZcK.eq_1 @ZcK.eq_2 @d5 @unO.eq_1 @unR.eq_1 (ja5 @rdR.eq_1 @Zab @Zh2 @hlen @hn0)))
theorem Znu [Tabs Tryz.prog] (n:Nat) (h0:0<n) (hn:n≤1000000):HCon Tryz.prog Zgi [.sc (.slice none 0 0),int n] [] (.own 22 1 none 0 0) [(22,1,.row false [])] 2:=by
 refine HCon.of' mix Tryz.func117 rfl Tryz.ntmps117 ZkX ZkY zB (by simp [AV.gl,AV.gl.glL,int]) zB ?_
 unfold Zgy
 have d1:decide ((n:Int)<0)=false:=decide_eq_false zO
 have d2:decide ((n:Int)>0)=true:=decide_eq_true zO
 have d3:(n==0)=false:=by simp;omega
 iterate 16 (first|refine zR (ja3 @d1 @d2 @d3) ?_|exact zU (ja3 @d1 @d2 @d3))
 refine SWp.cut 22 0 (g:=1) (nl:=false) (cells:=(List.replicate n [AV.sc (.int .i64 0)]).flatten) yT ?_
 repeat (first|refine zS ?_|exact zT)
theorem ZsR [Tabs Tryz.prog] (nl:Bool) (li:List Int) (hc:chk li=0) (l:List Nat) (hli:l=li.map Int.toNat):HCon Tryz.prog Zjg [.sl nl none (li.map int)] [] (.tup [.own 18 2 none 0 l.length,int 0]) [(18,2,.row false ((Za2 l).map nA))] 3:=by
 obtain ⟨hlen,ha,hK⟩:=ZsL hc
 obtain ⟨hm,h15⟩:=ZoQ ha
 rw [←hli] at hm h15 hK
 have hl:l.length≤320:=by rw [hli,List.length_map];exact hlen
 have hchk:=Zju nl li zO
 rw [hm,hc] at hchk
 rw [hm]
 clear hm ha hc
 refine HCon.of' mix Tryz.func116 rfl Tryz.ntmps116 Zsy Zsz zB (by simp only [AV.gl.glL,AV.gl,and_true];exact Zag _ _ Zaa) zB ?_
 unfold Znr
 have hf:AV.free.freeL [.sl nl none (l.map nA)]=true:=by simp only [AV.free,AV.free.freeL,Zaa,Bool.and_self]
 obtain ⟨Z,hZ⟩:∃ Z,Z=r16 fun _=>0:=⟨_,rfl⟩
 have hZl:Z.length=16:=by rw [hZ,ZaB]
 have hz:(List.replicate 16 (Value.int .i64 0)).map AV.sc=Z.map nA:=by rw [hZ];rfl
 have hZd:Z.drop 16=[]:=List.drop_of_length_le zO
 have hfr:=ZiU nl l hl h15
 have hF0:r16 (fr l)=r16 (nxK l 0):=Zl2 fun i _=>by
  unfold nxK
  by_cases e:i=0
  ·subst e;rfl
  ·rw [if_neg e];simp
 obtain ⟨F,hF⟩:∃ F,F=r16 (fr l):=⟨_,rfl⟩
 have hFl:F.length=16:=by rw [hF,ZaB]
 rw [←hF] at hfr
 repeat (first|refine zS ?_|exact zT)
 refine Zaz _ (.inl ⟨hf,hchk⟩) ?_
 repeat (first|refine zS ?_|exact zT)
 refine Zaz _ (.inl ⟨hf,hfr⟩) ?_
 repeat (first|refine zR (ja5 iR @hz @hFl @hZd @ZsM) ?_|exact zU (ja5 iR @hz @hFl @hZd @ZsM))
 have hcz:List.replicate l.length 0=ZeH l 0:=ZuF.symm
 refine SWp.loop (α:=Nat) (fun k=>mk 41 3 [(5,.op 5 1 0),(6,.own 18 2 none 0 l.length),(19,.sl nl none (l.map nA)),(20,int l.length),(21,int k)] [(5,1,.row false ((r16 (nxK l k)).map nA)),(18,2,.row false ((ZeH l k).map nA))])
  (fun k=>k≤l.length) (fun k=>l.length-k) 0 (Nat.zero_le _) (Zaj rfl ?_ ?_ ?_) ?_
 ·exact Nat.le_refl _
 iterate 2 (case _=>(first|exact yU (ja3 hF0.symm hF.symm @hcz)|refine yR (ja3 hF0.symm hF.symm @hcz) ?_))
 rintro k hk -
 repeat (first|refine zS ?_|exact zT)
 refine SWp.cond rfl (fun h=>?_) (fun h=>?_)
 ·simp only [decide_eq_true_eq] at h
  have hkl:k<l.length:=zO
  have hx15:l.getD k 0≤15:=by
   have:l.getD k 0=l[k]:=by simp [List.getD,List.getElem?_eq_getElem hkl]
   rw [this];exact h15 _ (List.getElem_mem hkl)
  have hcs:∀ n,(l.take (k+1)).count n=(l.take k).count n+(if n=l.getD k 0 then 1 else 0):=fun n=>ZfY hkl
  have hcd:l.getD k 0≠0→ZaZ l k=nxK l k (l.getD k 0):=fun h=>by unfold ZaZ nxK;simp [h]
  have hsm:=ZuG hkl
  have hst:=ZxZ hkl
  obtain ⟨x,hx⟩:∃ x,x=l.getD k 0:=⟨_,rfl⟩
  rw [←hx] at hx15 hcs hcd hsm
  by_cases c0:x=0
  ·have hsame:r16 (nxK l (k+1))=r16 (nxK l k):=Zl2 fun i _=>by
    unfold nxK
    by_cases e:i=0
    ·rw [if_pos e,if_pos e]
    ·rw [if_neg e,if_neg e,hcs,if_neg zO];rfl
   have hsm:=hsm c0
   subst c0
   repeat (first|refine zR (ja2 iR hx.symm) ?_|exact zU (ja2 iR hx.symm))
   refine At.of (k+1) zO zO rfl rfl (Nat.le_refl _) ?_ ?_
   iterate 2 (case _=>(first|exact yU (ja2 @hsame @hsm)|refine yR (ja2 @hsame @hsm) ?_))
  ·have d0:decide ((0:Int)<(x:Int))=true:=decide_eq_true zO
   have hg:=Zrg (f:=nxK l k) (k:=x) zO
   have hfl:=ZzZ hl (n:=x) hx15
   have hcl:=Zek (l:=l) (k:=k) (n:=x)
   have hyl:nxK l k x≤20971840:=by unfold nxK;rw [if_neg c0];omega
   have hset:=Zrh (f:=nxK l k) (g:=nxK l (k+1)) (k:=x) (x:=nxK l k x+1) (fun i hi=>by
    unfold nxK
    by_cases e:i=0
    ·subst e;rw [if_pos rfl,if_neg (fun h=>c0 h.symm)];rfl
    ·rw [if_neg e,hcs]
     by_cases e2:i=x
     ·subst e2;simp [e,Nat.add_assoc]
     ·simp [e,e2])
   rw [hcd c0] at hst
   obtain ⟨N,hN⟩:∃ N,N=r16 (nxK l k):=⟨_,rfl⟩
   have hNl:N.length=16:=by rw [hN,ZaB]
   obtain ⟨C,hC⟩:∃ C,C=ZeH l k:=⟨_,rfl⟩
   have hCl:C.length=l.length:=by rw [hC,Zem]
   obtain ⟨y,hy⟩:∃ y,y=nxK l k x:=⟨_,rfl⟩
   rw [←hN] at hset hg ⊢
   rw [←hC] at hst ⊢
   rw [←hy] at hg hset hyl hst
   have hsp1:=ZbJ (l:=C) (k:=k) (x:=y) zO
   rw [hst] at hsp1
   have hsp2:=ZbJ (l:=N) (k:=x) (x:=y+1) zO
   rw [hset] at hsp2
   repeat (first|refine zR (ja4 iR hx.symm @d0 @hg) ?_|exact zU (ja4 iR hx.symm @d0 @hg))
   refine At.of (k+1) zO zO rfl rfl (Nat.le_refl _) ?_ ?_
   ·(first|exact yT|refine yS ?_)
   ·(first|exact yT|refine yS ?_)
    exact ⟨hsp2,hsp1⟩
 ·simp only [decide_eq_false_iff_not] at h
  obtain rfl:k=l.length:=zO
  rw [ZxY]
  have hlc:=Zel (l:=l)
  repeat (first|refine zR iR ?_|exact zU iR)
theorem ZsS [Tabs Tryz.prog] (nl:Bool) (li:List Int) (hc:chk li=0) (l:List Nat) (hli:l=li.map Int.toNat):Con Tryz.prog Zjg [.sl nl none (li.map int)] (.tup [.sl false none ((Za2 l).map nA),int 0]):=by
 have hlc:=Zel (l:=l)
 refine (ZsR nl li hc l hli).con _ ?_ (by simp only [AV.free,AV.free.freeL,Zaa,int,Bool.and_self])
 (first|exact yU iR|refine yR iR ?_)
def u64 (n:Nat):AV:=.sc (.int .u64 (n:Int))
theorem ZsT [Tabs Tryz.prog] (k:Nat) (hk:k<1000000):Con Tryz.prog Znm [.sc (.int .u64 1),.sc (.int .u64 (k:Int))] (.tup [.sc (.int .u64 0),.sc (.int .u64 (k:Int))]):=by
 refine Con.of' mix Tryz.func142 rfl Tryz.ntmps142 Zsw Zsx zB rfl rfl ?_
 unfold Znq
 have h1:k&&&4294967295=k:=by
  have:=Nat.and_two_pow_sub_one_eq_mod k 32
  simp only [Nat.reducePow,Nat.reduceSub] at this
  rw [this,Nat.mod_eq_of_lt zO]
 have h2:k / 4294967296=0:=Nat.div_eq_of_lt zO
 repeat (first|refine xR (ja5 @h1 @h2 @Zbg @Int.one_mul @Int.zero_mul) ?_|exact xU (ja5 @h1 @h2 @Zbg @Int.one_mul @Int.zero_mul))
theorem Zx4 [Tabs Tryz.prog] (k:Nat) (hk:k<1000000):Con Tryz.prog Zqk [.sc (.int .u64 1),.sc (.int .u64 (k:Int))] (.tup [.sc (.int .u64 0),.sc (.int .u64 (k:Int))]):=by
 refine Con.of' mix Tryz.func118 rfl Tryz.ntmps118 ZxP ZxQ zB rfl rfl ?_
 unfold Zql
 repeat (first|refine xS ?_|exact xT)
 refine Zaz _ (.inl ⟨rfl,ZsT k hk⟩) ?_
 repeat (first|refine xS ?_|exact xT)
def ZsU (x n k:Nat):List Nat:=List.replicate n x++List.replicate (k-n) 0
theorem Zld {x n k:Nat} (h:n≤k):(ZsU x n k).length=k:=by simp [ZsU];omega
theorem ZDk {x k:Nat}:ZsU x k k=List.replicate k x:=by simp [ZsU]
theorem Zz9 {x k:Nat}:ZsU x 0 k=List.replicate k 0:=by simp [ZsU]
theorem ZAa {x n k m:Nat} (h:m≤n):(ZsU x n k).take m=List.replicate m x:=by
 rw [ZsU,List.take_append_of_le_length (by simp;exact h),List.take_replicate,Nat.min_eq_left h]
theorem ZoV {x n m k:Nat} (h:n+m≤k):ZbS n ((List.replicate m x).map nA) ((ZsU x n k).map nA)=(ZsU x (n+m) k).map nA:=by
 unfold ZbS
 rw [←List.map_take,←List.map_drop,←List.map_append,←List.map_append]
 congr 1
 simp only [ZsU,List.length_map,List.length_replicate]
 rw [List.take_append_of_le_length zB,List.take_replicate,Nat.min_self,List.drop_append,List.drop_of_length_le zB,List.nil_append,List.length_replicate,List.drop_replicate,List.replicate_append_replicate]
 congr 2
 omega
theorem ZaX [Tabs Tryz.prog] (x k:Nat) (h0:0<k) (hk:k≤100000):Con Tryz.prog Zay [.sl false none [.sc (.int .i64 (x:Int))],int (k:Int)] (.sl false none ((List.replicate k x).map nA)):=by
 refine Con.of' mix Tryz.func76 rfl Tryz.ntmps76 Zjk Zjl zB rfl (by simp only [AV.free,Zaa]) ?_
 unfold Ze9
 have d1:decide ((k:Int)<0)=false:=decide_eq_false zO
 have d2:decide ((9223372036854775807:Int)<(k:Int))=false:=decide_eq_false zO
 repeat (first|refine xR (ja3 @d1 @d2 @Zbg) ?_|exact xU (ja3 @d1 @d2 @Zbg))
 refine Zaz _ (.inl ⟨rfl,Zx4 k zO⟩) ?_
 have hz:(List.replicate k [AV.sc (.int .i64 0)]).flatten=(ZsU x 0 k).map nA:=by rw [ZsM,Zz9]
 have hl:=Zld (x:=x) (n:=0) (k:=k) zO
 have hs:(List.replicate 1 x).map nA++List.drop 1 ((ZsU x 0 k).map nA)=(ZsU x 1 k).map nA:=by have:=ZoV (x:=x) (n:=0) (m:=1) (k:=k) zO;rwa [ZbS,List.take_zero,List.nil_append,List.length_map,List.length_replicate,Nat.zero_add] at this
 have h1:([AV.sc (.int .i64 (x:Int))]).take k=(List.replicate 1 x).map nA:=by
  obtain ⟨k,rfl⟩:∃ j,k=j+1:=⟨k-1,by omega⟩
  simp [nA]
 repeat (first|refine xR (ja8 @d1 @d2 @Zbg @hz @hl @h1 @List.length_replicate.{0} @hs) ?_|exact xU (ja8 @d1 @d2 @Zbg @hz @hl @h1 @List.length_replicate.{0} @hs))
 refine SWp.loop (α:=Nat) (fun n=>mk 48 1 [(7,.own 30 0 none 0 k),(8,int (n:Int))] [(30,0,.row false ((ZsU x n k).map nA))])
  (fun n=>1≤n∧n≤k) (fun n=>k-n) 1 ⟨by omega,by omega⟩ (Zaj rfl ?_ ?_ ?_) ?_
 ·exact Nat.le_refl _
 iterate 2 (case _=>(first|exact vT|refine vS ?_))
 rintro n ⟨hn1,hn⟩ -
 have hl:=Zld (x:=x) (n:=n) (k:=k) hn
 obtain ⟨m,hm⟩:∃ m,m=min n (k-n):=⟨_,rfl⟩
 have hmn:n+m≤k:=zO
 have hs:=ZoV (x:=x) (n:=n) (m:=m) (k:=k) hmn
 rw [ZbS,List.length_map,List.length_replicate,List.append_assoc,ZgF,Zhp] at hs
 obtain ⟨R,hR⟩:∃ R,R=ZsU x n k:=⟨_,rfl⟩
 obtain ⟨Y,hY⟩:∃ Y,Y=List.replicate m x:=⟨_,rfl⟩
 have hYl:Y.length=m:=by rw [hY,List.length_replicate]
 have ht:((ZsU x n k).take n).take (k-n)=List.replicate m x:=by
  rw [List.take_take,Nat.min_comm,←hm,ZAa zO]
 rw [←hR] at hs ht hl ⊢
 rw [←hY] at hs ht
 have hn3:min (R.take n).length (k-n)=m:=by rw [List.length_take,hl];omega
 repeat (first|refine xS ?_|exact xT)
 refine SWp.cond rfl (fun h=>?_) (fun h=>?_)
 ·simp only [decide_eq_true_eq] at h
  repeat (first|refine xR (ja6 @hl @ZgF @Zhp @ht @hYl hm.symm) ?_|exact xU (ja6 @hl @ZgF @Zhp @ht @hYl hm.symm))
  refine At.of (n+m) zO zO rfl rfl (Nat.le_refl _) ?_ ?_
  iterate 2 (case _=>(first|exact vU (ja3 @hn3 hm.symm @hs)|refine vR (ja3 @hn3 hm.symm @hs) ?_))
 ·simp only [decide_eq_false_iff_not] at h
  obtain rfl:n=k:=zO
  repeat (first|refine xR @Zaa ?_|exact xU @Zaa)
  rw [hR,List.take_of_length_le (by rw [List.length_map,Zld (Nat.le_refl _)];exact Nat.le_refl _),ZDk]
theorem Zjx [Tabs Tryz.prog] (A B C D:List Nat) (hA:0<A.length) (hl:A.length≤1000∧B.length≤1000∧C.length≤1000∧D.length≤1000) :
  Con Tryz.prog Zbf [.sl false none [.sl false none (A.map nA),.sl false none (B.map nA),.sl false none (C.map nA),.sl false none (D.map nA)]] (.sl false none ((A++(B++(C++D))).map nA)):=by
 refine Con.of' mix Tryz.func75 rfl Tryz.ntmps75 Ze7 Ze8 zB (by simp only [AV.free,AV.free.freeL,Zaa,Bool.and_self]) (by simp only [AV.free,Zaa]) ?_
 unfold ZcW
 obtain ⟨n,hn⟩:∃ n,n=A.length+B.length+C.length+D.length:=⟨_,rfl⟩
 have hc:(A.length:Int)+(B.length:Int)+(C.length:Int)+(D.length:Int)=(n:Int):=zO
 have d1:decide ((A.length:Int)<0)=false:=decide_eq_false zO
 have d2:decide ((A.length:Int)+(B.length:Int)<0)=false:=decide_eq_false zO
 have d3:decide ((A.length:Int)+(B.length:Int)+(C.length:Int)<0)=false:=decide_eq_false zO
 have d4:decide ((n:Int)<0)=false:=decide_eq_false zO
 repeat (first|refine xR (ja5 @d1 @d2 @d3 @d4 @hc) ?_|exact xU (ja5 @d1 @d2 @d3 @d4 @hc))
 refine SWp.unroll ?_
 repeat (first|refine xR (ja5 @d1 @d2 @d3 @d4 @hc) ?_|exact xU (ja5 @d1 @d2 @d3 @d4 @hc))
 refine Zae [] 1000 (Znu n zO zO) zB zB ?_ ?_ ?_
 iterate 2 (case _=>(first|exact vT|refine vS ?_))
 repeat (first|refine xS ?_|exact xT)
 refine SWp.unroll ?_
 repeat (first|refine xR (ja2 @List.length_append.{0} @Zaa) ?_|exact xU (ja2 @List.length_append.{0} @Zaa))
 exact List.take_of_length_le (by simp;omega)
theorem Zx5 {l:List Nat}:l.map nA=(l.map Int.ofNat).map int:=by rw [List.map_map];rfl
theorem toNat_ofNat {l:List Nat}:(l.map Int.ofNat).map Int.toNat=l:=by
 rw [List.map_map]
 conv=>rhs;rw [←List.map_id l]
 exact List.map_congr_left fun _ _=>rfl
theorem ZHt {l:List Nat} (h15:∀ x∈l,x≤15) (hl:l.length≤320):chk (l.map Int.ofNat)=if 32768<Zav l then 3 else 0:=by
 unfold chk
 rw [toNat_ofNat,List.length_map,if_neg zO,if_neg]
 rw [Bool.not_eq_false,List.all_eq_true]
 intro x hx
 obtain ⟨y,hy,rfl⟩:=List.mem_map.1 hx
 have:=h15 y hy
 exact decide_eq_true (by show 0≤(y:Int)∧(y:Int)≤15;omega)
end Go.Proofs.YtfplkgciebjehabGreatDoor.Aw
