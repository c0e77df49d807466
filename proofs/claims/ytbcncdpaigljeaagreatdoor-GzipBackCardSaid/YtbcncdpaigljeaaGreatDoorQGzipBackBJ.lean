/- Parts of the proof of GzipBack. -/
import Derived.Test.YtbcncdpaigljeaaGreatDoorQGzipBackBI
import Derived.Test.YtbcncdpaigljeaaGreatDoorQGzipBackBG
import Derived.Test.YtbcncdpaigljeaaGreatDoorQGzipBackBF
import Derived.Test.YtbcncdpaigljeaaGreatDoorQGzipBackAW
import Derived.Test.YtbcncdpaigljeaaGreatDoorRows
import Derived.MakeChecks
import Derived.Lib.LaidTab
namespace Go.Proofs.YtbcncdpaigljeaaGreatDoor.Aw
open Go
set_option linter.unusedSimpArgs false
set_option linter.unusedVariables false
theorem ZB0:∀ {c:List UInt8},Rds (ZvH c.length) (Zah c) c
 | []=>Rds.ret
 | x::c=>by
  have e:Zah (x::c)=Zbq x.toNat 8++Zah c:=rfl
  rw [e,List.length_cons,ZvH]
  have hn:=Zil (v:=x.toNat) (n:=8)
  rw [Nat.mod_eq_of_lt x.toNat_lt] at hn
  refine hn.bnd (Rds.bnd0 (a:=c) ZB0 ?_)
  rw [UInt8.ofNat_toNat]
  exact Rds.ret
theorem Zww {u:Nat} (hu:u<2) {c:List UInt8} (hc:c.length≤65535):Zah (ZkS u c)=Zbq u 3++(Zbq 0 5++(Zbq c.length 16++(Zbq (65535-c.length) 16++Zah c))):=by
 rw [ZGA (show c.length<65536 by omega),ZGA (show 65535-c.length<65536 by omega)]
 have e1:Zfv (UInt8.ofNat u)=Zbq u 3++Zbq 0 5:=by
  obtain rfl | rfl:u=0∨u=1:=by omega
  ·decide
  ·decide
 rw [ZkS]
 simp only [Zah,List.flatMap_cons,e1,List.append_assoc]
theorem Zvb {most F:Nat} {out:List UInt8} {u:Nat} (hu:u<2) {c:List UInt8} (hc:c.length≤65535) (hm:out.length+c.length≤most) {B R:List Nat} {j:Nat} (hj:8*j≤B.length) (hd:B.drop (8*j)=Zah (ZkS u c)++R) :
  (ZvJ most F out).run B (8*j) = .ok (decide (u % 2=1),out++c) (8*(j+5+c.length)):=by
 rw [Zww hu hc] at hd
 have hl:=congrArg List.length hd
 simp only [List.length_drop,List.length_append,Zap,Zad] at hl
 have h3:=Zil (v:=u) (n:=3) B (Zbq 0 5++(Zbq c.length 16++(Zbq (65535-c.length) 16++Zah c))++R) (8*j) hj (by rw [hd];simp only [List.append_assoc])
 rw [Nat.mod_eq_of_lt (show u<2^3 by omega),Zap] at h3
 rw [ZvJ,Zav,h3]
 simp only [BR.bnd]
 rw [Zav,ZuK,if_pos (by omega),ZAw,BT.run]
 rw [show (8*j+3+7) / 8*8-(8*j+3)=5 by omega]
 have hb:Rds ((ZkX 5).bnd fun _=>(ZkX 16).bnd fun n=>(ZkX 16).bnd fun m=>if n+m≠65535 then .err 3 else (ZvH n).bnd fun bs=>if most<out.length+n then .err 4 else .ret (out++bs)) (Zbq 0 5++(Zbq c.length 16++(Zbq (65535-c.length) 16++Zah c))) (out++c):=by
  refine Zil.bnd ?_
  have n1:=Zil (v:=c.length) (n:=16)
  rw [Nat.mod_eq_of_lt (show c.length<2^16 by omega)] at n1
  refine n1.bnd ?_
  have n2:=Zil (v:=65535-c.length) (n:=16)
  rw [Nat.mod_eq_of_lt (show 65535-c.length<2^16 by omega)] at n2
  refine n2.bnd ?_
  rw [if_neg (by omega)]
  refine ZB0.bnd0 ?_
  rw [if_neg (by omega)]
  exact Rds.ret
 rw [hb B R (8*j+3) (by omega) (by rw [←List.drop_drop,hd];simp only [List.append_assoc];rw [List.drop_append_of_le_length (by rw [Zap];exact Nat.le_refl _),List.drop_of_length_le (by rw [Zap];exact Nat.le_refl _),List.nil_append])]
 simp only [BR.bnd,BT.run,List.length_append,Zap,Zad]
 congr 1
 omega
theorem Ztm {b:List UInt8}:∀ {n k:Nat},∃ T,stK b (k+n)=stK b k++T
 | 0,k=>⟨[],by simp⟩
 | n+1,k=>by
  obtain ⟨T,hT⟩:=Ztm (b:=b) (n:=n) (k:=k)
  exact ⟨T++ZkS 0 ((b.drop (65535*(k+n))).take 65535),by rw [←Nat.add_assoc,stK,hT,List.append_assoc]⟩
theorem Zwx {b R:List UInt8} {F Q most:Nat} (hm:b.length≤most) (hQ:Q=(b.length-1) / 65535):∀ {n k f:Nat},k+n=Q→n<f→(Zpk most F f (b.take (65535*k))).run (Zah (stL b++R)) (8*(stK b k).length) = .ok b (8*(stL b).length)
 | n,k,0,_,h=>by omega
 | 0,k,f+1,hk,_=>by
  obtain rfl:k=Q:=by omega
  have hs:stL b=stK b k++ZkS 1 (b.drop (65535*k)):=by rw [stL,←hQ]
  have hlen:65535*k≤b.length:=by omega
  have hr:=Zvb (most:=most) (F:=F) (out:=b.take (65535*k)) (u:=1) (by omega) (c:=b.drop (65535*k)) (by rw [List.length_drop];omega) (by rw [List.length_take,List.length_drop];omega) (B:=Zah (stL b++R)) (R:=Zah R) (j:=(stK b k).length) (by rw [Zad,List.length_append,hs,List.length_append];omega) (by
   rw [hs,List.append_assoc,Zbj,←Zad,List.drop_left,Zbj])
  rw [Zpk,Zav,hr]
  simp only [BR.bnd]
  rw [if_pos (by decide),List.take_append_drop,BT.run,hs,List.length_append,Zb0]
  congr 1
  omega
 | n+1,k,f+1,hk,hf=>by
  have hlen:65535*(k+1)≤b.length:=by omega
  obtain ⟨T,hT⟩:=Ztm (b:=b) (n:=n) (k:=k+1)
  have hc:((b.drop (65535*k)).take 65535).length=65535:=by rw [List.length_take,List.length_drop];omega
  have hs:stL b=stK b k++(ZkS 0 ((b.drop (65535*k)).take 65535)++(T++ZkS 1 (b.drop (65535*Q)))):=by
   rw [stL,←hQ,show Q=k+1+n by omega,hT,stK]
   simp only [List.append_assoc]
  have hr:=Zvb (most:=most) (F:=F) (out:=b.take (65535*k)) (u:=0) (by omega) (c:=(b.drop (65535*k)).take 65535) (by omega) (by rw [List.length_take];omega) (B:=Zah (stL b++R)) (R:=Zah (T++ZkS 1 (b.drop (65535*Q))++R)) (j:=(stK b k).length) (by rw [Zad,List.length_append,hs,List.length_append];omega) (by
   rw [hs,List.append_assoc,Zbj,←Zad,List.drop_left,List.append_assoc,Zbj])
  have ht:b.take (65535*k)++(b.drop (65535*k)).take 65535=b.take (65535*(k+1)):=by
   rw [show 65535*(k+1)=65535*k+65535 by omega,List.take_add]
  rw [Zpk,Zav,hr]
  simp only [BR.bnd]
  rw [if_neg (by decide),ht,hc]
  have h1:(stK b (k+1)).length=(stK b k).length+(ZkS 0 ((b.drop (65535*k)).take 65535)).length:=by rw [stK,List.length_append]
  rw [Zb0,hc] at h1
  have hl:(stK b k).length+5+65535=(stK b (k+1)).length:=by omega
  rw [hl]
  exact Zwx hm hQ (n:=n) (k:=k+1) (f:=f) (by omega) (by omega)
termination_by n=>n
decreasing_by omega
theorem ZIr {b:List UInt8} {F:Nat} (hF:b.length<F) {most:Nat} (hm:b.length≤most) {R:List UInt8}:ZyG F (stL b++R) most=(b,(stL b).length,0):=by
 have h:=Zwx (R:=R) (F:=F) hm rfl (n:=(b.length-1) / 65535) (k:=0) (f:=F) (by omega) (by omega)
 rw [Nat.mul_zero,List.take_zero,show (stK b 0).length=0 from rfl,Nat.mul_zero] at h
 rw [ZyG,h,ZB9]
 congr 2
 omega
set_option maxRecDepth 100000 in
theorem ZyB [Tabs Tryz.prog] (nl:Bool) (b:List UInt8) (hl:b.length≤1000000) (i n:Nat) (hi:i≤b.length) (hn:b.length<i+n) :
  HCon Tryz.prog Zcz [.op 1000 0 0,int (n:Int)] [.row false (rdR nl b i)] (.tup [.sc (.slice none 0 0),int 2]) [] 1:=by
 refine HCon.of' mix Tryz.func114 rfl Tryz.ntmps114 ZgB ZgC (by simp) (by simp [AV.gl,AV.gl.glL,int]) Zgj ?_
 unfold ZdX
 have d1:decide ((b.length:Int)-(i:Int)<(n:Int))=true:=decide_eq_true (by omega)
 repeat (first | refine zR (ja3 @rdR.eq_1 @d1 @List.length_map.{0,0}) ?_ | exact zU (ja3 @rdR.eq_1 @d1 @List.length_map.{0,0}))
set_option maxRecDepth 100000 in
theorem ZyC [Tabs Tryz.prog] (nl:Bool) (b:List UInt8) (hl:b.length<10):HCon Tryz.prog ZdQ [.op 1000 0 0] [.row false (rdR nl b 0)] (.tup [.sc (.int .u8 0),int 0,int 2]) [] 5:=by
 refine HCon.of' mix Tryz.func73 rfl Tryz.ntmps73 Zgu Zgv (by simp) (by simp [AV.gl,AV.gl.glL,int]) Zgj ?_
 unfold ZdU
 repeat (first | refine zS ?_ | exact zT)
 refine Zag [(1000,0)] 2000 (ZyB nl b (by omega) 0 10 (Nat.zero_le _) (by omega)) (by simp) (by simp) ?_ ?_ ?_
 iterate 2 (case _=>(first | exact yU @rdR.eq_1 | refine yR @rdR.eq_1 ?_))
 repeat (first | refine zS ?_ | exact zT)
set_option maxRecDepth 100000 in
theorem Ztn [Tabs Tryz.prog] (nl:Bool) (b:List UInt8) (hl:b.length<10) (room:Int):HCon Tryz.prog Zb7 [.op 1000 0 0,int room] [.row false (rdR nl b 0)] (.tup [.agg [str [],int 0,.sc (.slice none 0 0)],int 2]) [] 10:=by
 refine HCon.of' mix Tryz.func43 rfl Tryz.ntmps43 Zfd Zfe (by simp) (by simp [AV.gl,AV.gl.glL,int]) Zgj ?_
 unfold Zc6
 repeat (first | refine zS ?_ | exact zT)
 refine Zag [(1000,0)] 2000 (ZyC nl b hl) (by simp) (by simp) ?_ ?_ ?_
 iterate 2 (case _=>(first | exact yU @rdR.eq_1 | refine yR @rdR.eq_1 ?_))
 repeat (first | refine zS ?_ | exact zT)
set_option maxRecDepth 100000 in
theorem ZpM [Tabs Tryz.prog] (room:Nat) (hr:room≤16777216):Con Tryz.prog ZdP [.sl true none [],int (room:Int)] (.tup [.sc (.slice none 0 0),.agg [str [],int 0,int 2]]):=by
 refine Con.of' mix Tryz.func16 rfl Tryz.ntmps16 ZhT ZhU (by simp) rfl rfl ?_
 unfold Zfq
 have d1:decide ((room:Int)<0)=false:=decide_eq_false (by omega)
 have d2:decide ((16777216:Int)<(room:Int))=false:=decide_eq_false (by omega)
 repeat (first | refine zR (ja2 @d1 @d2) ?_ | exact zU (ja2 @d1 @d2))
 refine SWp.unroll ?_
 repeat (first | refine zR (ja3 @List.length_nil.{0} @List.take_zero.{0} @List.drop_zero.{0}) ?_ | exact zU (ja3 @List.length_nil.{0} @List.take_zero.{0} @List.drop_zero.{0}))
 refine Zag [(30,1)] 2000 (Ztn true [] (by simp) room) (by simp) (by simp) ?_ ?_ ?_
 iterate 2 (case _=>(first | exact yU @rdR.eq_1 | refine yR @rdR.eq_1 ?_))
 repeat (first | refine zS ?_ | exact zT)
abbrev Mx:=List UInt8 × Int × (Bool × List UInt8)
def mxV (x:Mx):AV:=.agg [str x.1,int x.2.1,.sl x.2.2.1 none (x.2.2.2.map u8)]
def mxK (x:Mx):List UInt8 × Int × List UInt8:=(x.1,x.2.1,x.2.2.2)
theorem ZnZ {l:List Mx}:AV.free.freeL (l.map mxV)=true:=Zba.2 fun x hx=>by
 obtain ⟨m,_,rfl⟩:=List.mem_map.1 hx
 simp only [mxV,AV.free,AV.free.freeL,str,int,Zak,Bool.and_self]
theorem ZrC {l:List Mx} {k:Nat} (h:k<l.length):(l.map mxV).getD k .junk=mxV l[k]:=by simp [List.getD,List.getElem?_eq_getElem h]
set_option maxHeartbeats 1000000 in
set_option maxRecDepth 100000 in
theorem ZyD [Tabs Tryz.prog] (n1 n2:Bool) (xs ys:List Mx) (h:xs.map mxK=ys.map mxK) (hl:xs.length≤1000):Con Tryz.prog ZfQ [.sl n1 (some 3) (xs.map mxV),.sl n2 (some 3) (ys.map mxV)] (boo true):=by
 refine Con.of' mix Tryz.func18 rfl Tryz.ntmps18 ZkI ZkJ (by simp) (by simp only [AV.free,AV.free.freeL,ZnZ,Bool.and_self]) rfl ?_
 unfold Zf7
 have hlen:ys.length=xs.length:=by have:=congrArg List.length h;simpa using this.symm
 have dn:decide ((xs.length:Int)=(xs.length:Int))=true:=decide_eq_true rfl
 repeat (first | refine zR (ja3 @List.length_map.{0,0} @hlen @dn) ?_ | exact zU (ja3 @List.length_map.{0,0} @hlen @dn))
 refine SWp.loop (α:=Nat) (fun k=>mk 56 0 [(0,.sl n1 (some 3) (xs.map mxV)),(1,.sl n2 (some 3) (ys.map mxV)),(5,int (k:Int))] [])
  (fun k=>k≤xs.length) (fun k=>xs.length-k) 0 (Nat.zero_le _) (Zau rfl ?_ ?_ ?_) ?_
 ·exact Nat.le_refl _
 iterate 2 (case _=>(first | exact yT | refine yS ?_))
 rintro k hk -
 by_cases c:k<xs.length
 ·have dk:decide ((k:Int)<(xs.length:Int))=true:=decide_eq_true (by omega)
  have g1:=ZrC c
  have g2:=ZrC (l:=ys) (k:=k) (by omega)
  have e:=congrArg (fun l=>l[k]?) h
  simp only [List.getElem?_map,List.getElem?_eq_getElem c,List.getElem?_eq_getElem (show k<ys.length by omega),Option.map_some,Option.some.injEq] at e
  obtain ⟨x,hx⟩:∃ x,x=xs[k]:=⟨_,rfl⟩
  obtain ⟨y,hy⟩:∃ y,y=ys[k]:=⟨_,rfl⟩
  rw [←hx] at g1 e
  rw [←hy] at g2 e
  obtain ⟨x1,x2,x3,x4⟩:=x
  obtain ⟨y1,y2,y3,y4⟩:=y
  simp only [mxK,Prod.mk.injEq] at e
  obtain ⟨rfl,rfl,rfl⟩:=e
  have s1:decide ((⟨x1.toArray⟩:ByteArray).data.toList=(⟨x1.toArray⟩:ByteArray).data.toList)=true:=decide_eq_true rfl
  have s2:decide (x2=x2)=true:=decide_eq_true rfl
  have s3:decide ((⟨x4.toArray⟩:ByteArray).data.toList=(⟨x4.toArray⟩:ByteArray).data.toList)=true:=decide_eq_true rfl
  simp only [mxV] at g1 g2
  clear hx hy h
  repeat (first | refine zR (ja8 @List.length_map.{0,0} @hlen @dk @g1 @g2 @s1 @s2 @s3) ?_ | exact zU (ja8 @List.length_map.{0,0} @hlen @dk @g1 @g2 @s1 @s2 @s3))
  refine At.of (k+1) (by omega) (by omega) rfl rfl (Nat.le_refl _) ?_ ?_
  iterate 2 (case _=>(first | exact yT | refine yS ?_))
 ·obtain rfl:k=xs.length:=by omega
  have dk:decide ((xs.length:Int)<(xs.length:Int))=false:=decide_eq_false (by omega)
  repeat (first | refine zR (ja2 @List.length_map.{0,0} @dk) ?_ | exact zU (ja2 @List.length_map.{0,0} @dk))
theorem Zvc {F most used:Nat} {X D:List UInt8} (h:ZyG F X most=(D,used,0)) (h0:0<used):∃ j,(Zpk most F F []).run (Zah X) 0 = .ok D j∧(j+7) / 8=used:=by
 rw [ZyG] at h
 cases hr:(Zpk most F F []).run (Zah X) 0 with
 | no e=>rw [hr,ZB9] at h;simp only [Prod.mk.injEq] at h;omega
 | ok o j =>
  rw [hr,ZB9] at h
  simp only [Prod.mk.injEq] at h
  exact ⟨j,by rw [h.1],h.2.1⟩
theorem ZEe {b:List UInt8} (hb:b.length≤20000) {how:Int} (h0:0≤how) (h2:how≤2):(ZD6 b how).2=0∧∀ (most:Nat) (R:List UInt8),b.length≤most→∃ j,(Zpk most 9000000 9000000 []).run (Zah ((ZD6 b how).1++R)) 0 = .ok b j∧(j+7) / 8=(ZD6 b how).1.length:=by
 have hP:=Zih hb
 have h1:=ZkV (b:=b)
 have h3:=ZkW (b:=b)
 have h4:=Zwi hP (Zge hb)
 have h5:=Zwj hP (Zge hb)
 have h6:=ZmL (b:=b)
 unfold ZD6
 by_cases c0:how=0
 ·rw [if_pos c0]
  exact ⟨rfl,fun most R hm=>Zvc (ZIr (by omega) hm) (by simp only;omega)⟩
 rw [if_neg c0]
 by_cases c1:how=1
 ·rw [if_pos c1]
  exact ⟨rfl,fun most R hm=>Zvc (ZIo hb (by omega) hm) (by simp only;omega)⟩
 rw [if_neg c1,if_pos (show how=2 by omega)]
 exact ⟨rfl,fun most R hm=>Zvc (ZIq hb (by omega) hm) (by simp only;omega)⟩
theorem Zvd {b:List UInt8} (h:b.length≤65535):stL b=ZkS 1 b:=by
 rw [stL,show (b.length-1) / 65535=0 by omega]
 simp [stK]
theorem Zve {b:List UInt8}:(tlB b).length=8:=by rw [tlB,List.length_append,ZaS,ZaS]
set_option maxHeartbeats 1000000 in
theorem ZEf {c R:List UInt8} (hc:c.length≤65535) {most:Nat} (hm:c.length≤most):Zb6 (ZkS 1 c++R) 0 3=1∧(ZAw most []).run (Zah (ZkS 1 c++R)) 3 = .ok c (8*(c.length+5)):=by
 have h:=Zvb (most:=most) (F:=1) (out:=[]) (u:=1) (by omega) hc (by simpa using hm) (B:=Zah (ZkS 1 c++R)) (R:=Zah R) (j:=0) (Nat.zero_le _) (by rw [Nat.mul_zero,List.drop_zero,Zbj])
 have hl:0+3≤8*(ZkS 1 c++R).length:=by rw [List.length_append,Zb0];omega
 have h1:Zb6 (ZkS 1 c++R) 0 3=1:=by
  have e1:=Zil (v:=1) (n:=3) (Zah (ZkS 1 c++R)) (Zbq 0 5++(Zbq c.length 16++(Zbq (65535-c.length) 16++Zah c))++Zah R) 0 (Nat.zero_le _) (by rw [List.drop_zero,Zbj,Zww (by omega) hc];simp only [List.append_assoc])
  have e2:=ZeH (b:=ZkS 1 c++R) (i:=0) (n:=3) (Nat.zero_le _)
  rw [if_pos hl,e1] at e2
  simp only [BR.ok.injEq] at e2
  exact e2.1.symm
 refine ⟨h1,?_⟩
 rw [Nat.mul_zero,ZvJ,Zav,ZeH (Nat.zero_le _),if_pos hl] at h
 simp only [BR.bnd] at h
 rw [Zav,h1,ZuK,if_pos (by omega)] at h
 simp only [Nat.zero_add] at h
 generalize (ZAw most []).run (Zah (ZkS 1 c++R)) 3=r at h ⊢
 cases r with
 | no e=>cases h
 | ok o j =>
  simp only [BR.bnd,BT.run] at h
  injection h with a b
  have a2:=congrArg Prod.snd a
  simp only [List.nil_append] at a2
  rw [a2,b]
  congr 1
  omega
set_option maxHeartbeats 2000000 in
set_option maxRecDepth 100000 in
theorem ZrD [Tabs Tryz.prog] (most:Nat) (hm:most≤16777216) (c b:List UInt8) (hl:b.length≤1000000) (h3:0+3≤8*b.length) (h1:Zb6 b 0 3=1) (hs:(ZAw most []).run (Zah b) 3 = .ok c (8*(c.length+5))) :
  HCon Tryz.prog Zcc [.op 1000 0 0] (unI false most false b 0 []) (.tup [boo true,int 0]) (unO 104 false most false b (8*(c.length+5)) c) 200:=by
 refine HCon.of' mix Tryz.func26 rfl Tryz.ntmps26 ZdB ZdC (by simp) (by simp [AV.gl,AV.gl.glL,int]) ZeI ?_
 unfold Zce
 have hT:=Zdw false b hl 0 (Nat.zero_le _) 3 (by omega) h3
 obtain ⟨h,hh⟩:∃ h,h=Zb6 b 0 3:=⟨_,rfl⟩
 rw [←hh] at hT h1
 have hS:=Zm9 false most hm false b hl (fun h=>by cases h) 3 (by omega) [] (Nat.zero_le _) _ hs
 have hlast:decide (((h % 2:Nat):Int)=1)=true:=decide_eq_true (by omega)
 have hl2:decide ((h:Int)=1)=true:=decide_eq_true (by omega)
 have hp:h / 2=0:=by omega
 have h7:h<8:=by omega
 obtain ⟨j,hj⟩:∃ j,j=8*(c.length+5):=⟨_,rfl⟩
 rw [←hj] at hS ⊢
 clear hs
 repeat (first | refine zR (ja2 @unI.eq_1 @unR.eq_1) ?_ | exact zU (ja2 @unI.eq_1 @unR.eq_1))
 refine Zag [(1001,0)] 2000 hT (by simp) (by simp) ?_ ?_ ?_
 iterate 2 (case _=>(first | exact yU @rdR.eq_1 | refine yR @rdR.eq_1 ?_))
 repeat (first | refine zR (ja4 @unR.eq_1 @rdR.eq_1 @hp @Nat.pow_one) ?_ | exact zU (ja4 @unR.eq_1 @rdR.eq_1 @hp @Nat.pow_one))
 refine Zag [(1000,0),(1001,0),(1002,0)] 3000 hS (by simp) (by simp) ?_ ?_ ?_
 iterate 2 (case _=>(first | exact yU (ja4 @unI.eq_1 @unR.eq_1 @rdR.eq_1 @Zaa) | refine yR (ja4 @unI.eq_1 @unR.eq_1 @rdR.eq_1 @Zaa) ?_))
 repeat (first | refine zR (ja8 @Zco.eq_1 @Zco.eq_2 @Zcp.eq_1 @Zcp.eq_2 @unO.eq_1 @unR.eq_1 @rdR.eq_1 (ja4 @Zaa @ZbZ @hlast @hl2)) ?_ | exact zU (ja8 @Zco.eq_1 @Zco.eq_2 @Zcp.eq_1 @Zcp.eq_2 @unO.eq_1 @unR.eq_1 @rdR.eq_1 (ja4 @Zaa @ZbZ @hlast @hl2)))
set_option maxHeartbeats 2000000 in
set_option maxRecDepth 100000 in
theorem ZB1 [Tabs Tryz.prog] (c R:List UInt8) (hc:c.length≤65535) (hR:R.length≤100000) (m:Nat) (hm:m≤16777216) (hcm:c.length≤m) :
  Con Tryz.prog Zbk [.sl false none ((ZkS 1 c++R).map u8),int (m:Int)] (.tup [.sl (nl0 c.length) none (c.map u8),int ((c.length+5:Nat):Int),int 0]):=by
 refine Con.of' mix Tryz.func10 rfl Tryz.ntmps10 Zhh Zhi (by simp) (by simp only [AV.free,AV.free.freeL,Zak,int,Bool.and_self]) (by simp only [AV.free,AV.free.freeL,Zak,int,Bool.and_self]) ?_
 unfold ZeE
 obtain ⟨k1,k2⟩:=ZEf (R:=R) hc hcm
 have h3:0+3≤8*(ZkS 1 c++R).length:=by rw [List.length_append,Zb0];omega
 have hl:(ZkS 1 c++R).length≤1000000:=by rw [List.length_append,Zb0];omega
 obtain ⟨b,hb⟩:∃ b,b=ZkS 1 c++R:=⟨_,rfl⟩
 rw [←hb] at k1 k2 h3 hl ⊢
 have hB:=ZrD m hm c b hl h3 k1 k2
 obtain ⟨j,hj⟩:∃ j,j=8*(c.length+5):=⟨_,rfl⟩
 rw [←hj] at hB
 have hA:=ZsD false b j
 have d1:decide ((m:Int)<0)=false:=decide_eq_false (by omega)
 have d2:decide ((16777216:Int)<(m:Int))=false:=decide_eq_false (by omega)
 obtain ⟨w,hw⟩:∃ w,w=j+7:=⟨_,rfl⟩
 have ew:(j:Int)+8-1=(w:Int):=by omega
 have ec:c.length+5=w / 8:=by omega
 rw [ec]
 clear k1 k2 hb hj
 repeat (first | refine zR (ja2 @d1 @d2) ?_ | exact zU (ja2 @d1 @d2))
 refine Zag [] 2000 (ZiD false b hl (fun h=>by cases h)) (by simp) (by simp) ?_ ?_ ?_
 iterate 2 (case _=>(first | exact yT | refine yS ?_))
 iterate 1 (first | refine zR @rdR.eq_1 ?_ | exact zU @rdR.eq_1)
 refine SWp.adoptC 19 2 1 100 none (nl:=false) (cells:=[.op 2006 1 0,.sc (.slice none 0 0),int (m:Int),.sc (.pointer none)]) (by (first | exact yT | refine yS ?_)) rfl (by decide) ?_
 repeat (first | refine zR (ja2 @List.set_cons_zero.{0} @List.set_cons_succ.{0}) ?_ | exact zU (ja2 @List.set_cons_zero.{0} @List.set_cons_succ.{0}))
 refine SWp.unroll ?_
 repeat (first | refine zS ?_ | exact zT)
 refine Zag [(19,2),(2006,1),(100,3)] 3000 hB (by simp) (by simp) ?_ ?_ ?_
 iterate 2 (case _=>(first | exact yU (ja5 @unI.eq_1 @unR.eq_1 @rdR.eq_1 @ZeX @Zbw) | refine yR (ja5 @unI.eq_1 @unR.eq_1 @rdR.eq_1 @ZeX @Zbw) ?_))
 repeat (first | refine zR (ja5 @unO.eq_1 @unR.eq_1 @rdR.eq_1 @Zaa @ZeX) ?_ | exact zU (ja5 @unO.eq_1 @unR.eq_1 @rdR.eq_1 @Zaa @ZeX))
 refine Zag [(2006,1)] 4000 hA (by simp) (by simp) ?_ ?_ ?_
 iterate 2 (case _=>(first | exact yU @rdR.eq_1 | refine yR @rdR.eq_1 ?_))
 repeat (first | refine zR (ja2 @rdR.eq_1 @ew) ?_ | exact zU (ja2 @rdR.eq_1 @ew))
 all_goals trace_state
theorem Zto [Tabs Tryz.prog] (nm:ByteArray) (hn:nm.data.toList.length≤200) (hz:Lib.indexByte nm.data.toList 0<0) (mt:Nat) (hm:mt<4294967296) (nl:Bool) (b:List UInt8) (hb:b.length≤1000000) (how:Int) (K:List UInt8) (hK:K.length≤1000000)
  (hD:Con Tryz.prog Za5 [.sl nl none (b.map u8),int how] (.tup [.sl false none (K.map u8),int 0])) :
  Con Tryz.prog ZfR [mbA nm mt nl b,int how] (.tup [.sl false none ((hdB nm.data.toList mt++(K++tlB b)).map u8),int 0]):=by
 obtain ⟨n,hn'⟩:∃ n,n=(hdB nm.data.toList mt++(K++tlB b)).length:=⟨_,rfl⟩
 have h:=ZAT nm hn hz mt hm nl b hb how K hK hD n hn'
 refine h.con _ ?_ ?_
 ·have ht:((hdB nm.data.toList mt++(K++tlB b)).map u8).take n=(hdB nm.data.toList mt++(K++tlB b)).map u8:=List.take_of_length_le (by simp only [List.length_map];omega)
  have hl:n≤((hdB nm.data.toList mt++(K++tlB b)).map u8).length:=by simp only [List.length_map];omega
  obtain ⟨X,hX⟩:∃ X,X=hdB nm.data.toList mt++(K++tlB b):=⟨_,rfl⟩
  rw [←hX] at ht hl ⊢
  rw [List.length_map] at hl
  (first | exact yU (ja3 @ht @hl @List.length_map.{0,0}) | refine yR (ja3 @ht @hl @List.length_map.{0,0}) ?_)
 ·simp only [AV.free,AV.free.freeL,Zak,int,Bool.and_self]
theorem ZjN {x:AV}:eqB x x=true:=ZER rfl
theorem ZmO {a e:Int} (ha:0≤a) (ha':a≤1000000000) (he:0≤e) (he':e≤1000000000):Zfm (.agg #[.string ⟨#[]⟩,.int .i64 0,.int .i64 0]) (.agg [.sc (.string ⟨#[]⟩),.sc (.int .i64 a),.sc (.int .i64 e)])=True:=by
 have k1:IntKind.i64.min=-9223372036854775808:=rfl
 have k2:IntKind.i64.max=9223372036854775807:=rfl
 refine eq_true ?_
 simp only [Zfm,ZrL,Zn0,k1,k2,and_true,true_and]
 refine ⟨by decide,by omega,by omega⟩
theorem aw6:hdB [110] 1++(stL [97]++tlB [97])=[31,139,8,8,1,0,0,0,0,3,110,0,1,1,0,254,255,97,67,190,183,232,1,0,0,0]:=by decide +kernel
set_option maxHeartbeats 1000000 in
set_option maxRecDepth 100000 in
theorem ZrE [Tabs Tryz.prog]:Con Tryz.prog Zfa [] (boo true):=by
 refine Con.of' mix Tryz.func12 rfl Tryz.ntmps12 ZjS ZjT (by simp) rfl rfl ?_
 unfold Zfc
 have p1:=Zto ⟨#[110]⟩ (by decide) (by decide) 1 (by omega) false [97] (by decide) 0 (stL [97]) (by decide) (Ztj false [97] (by decide))
 have hI:=ZB1 [97] (tlB [97]) (by decide) (by rw [Zve];omega) 10 (by omega) (by decide)
 rw [←Zvd (by decide)] at hI
 have p2:=Zrm [110] (by decide) (by decide) 1 (by omega) (stL [97]++tlB [97]) _ aw6.symm (by decide) (by rw [Zvd (by decide),List.length_append,Zb0,Zve];decide) 10 (by omega) _ [97] (by decide) _ hI (by rw [Zvd (by decide),List.length_append,Zb0,Zve]) (by decide +kernel)
 rw [show (⟨#[110]⟩:ByteArray).data.toList=[110] from rfl,aw6] at p1
 obtain ⟨B,hB⟩:∃ B:List UInt8,B=[31,139,8,8,1,0,0,0,0,3,110,0,1,1,0,254,255,97,67,190,183,232,1,0,0,0]:=⟨_,rfl⟩
 rw [←hB] at p1 p2
 have hBl:B.length=26:=by rw [hB];rfl
 have hB12:((B.take 12).map u8).map Zvf=[31,139,8,8,1,0,0,0,0,3,110,0]:=by rw [hB];decide
 have e1:([97]:List UInt8).map u8=[.sc (.int .u8 97)]:=rfl
 have u1:Zvf (AV.sc (.int .u8 97))=97:=rfl
 have lk:=ZmO (a:=0) (e:=0) (by omega) (by omega) (by omega) (by omega)
 simp only [mbA,e1] at p1 p2
 repeat (first | refine zS ?_ | exact zT)
 refine Zay _ (.inl ⟨rfl,p1⟩) ?_
 repeat (first | refine zS ?_ | exact zT)
 refine Zay _ (.inl ⟨by simp only [AV.free,AV.free.freeL,Zak,Bool.and_self],p2⟩) ?_
 repeat (first | refine zR (ja6 @lk @ZjN @hBl @hB12 @List.length_map.{0,0} @u1) ?_ | exact zU (ja6 @lk @ZjN @hBl @hB12 @List.length_map.{0,0} @u1))
 refine ⟨by rw [hB];rfl,?_⟩
 repeat (first | refine zS ?_ | exact zT)
theorem ZB2 {b:List UInt8} (hb:b.length≤20000) {how:Int}:(ZD6 b how).1.length≤10*b.length+4000:=by
 have hf:=ZjI hb
 have hP:(ZjH b).length≤b.length:=by rw [ZjH,List.length_append,ZnH,List.length_map,List.length_drop];omega
 have h5:=ZmL (b:=b)
 have h1:=ZkV (b:=b)
 have h2:=ZkW (b:=b)
 have h3:(ZyJ (ZjH b)).length≤78*(ZjH b).length+30000:=by
  rw [ZyJ,Zne]
  simp only [List.length_append,Zap]
  have h1:=ZlS ZoZ Zs6 Zki.1 Zki.2 (Zge hb)
  have h2:=Zfz ZoZ (Ztf Zki.1)
  omega
 have h4:(Zyx (ZjH b)).length≤78*(ZjH b).length+30000:=by
  obtain ⟨ol,od,l1,d1⟩:=ZnX (Zih hb)
  have t1:=(ZjL ol od l1 d1).1
  rw [Zyx,Zne]
  simp only [List.length_append,Zap]
  have h1:=ZlS ol od (by omega) (by omega) (Zge hb)
  have h2:=Zfz ol (Ztf (by omega))
  omega
 unfold ZD6
 split
 ·simp only;omega
 split
 ·simp only;omega
 split
 ·simp only;omega
 ·simp
theorem ZIV (how:Int):∃ q:Nat,q≤3∧Zb5 .and .i64 how .i64 3=(True,.sc (.int .i64 (q:Int))):=by
 have h:(BitVec.ofInt 64 how&&&BitVec.ofInt 64 3).toNat≤3:=by
  rw [BitVec.toNat_and]
  exact Nat.and_le_right
 refine ⟨(BitVec.ofInt 64 how&&&BitVec.ofInt 64 3).toNat,h,?_⟩
 simp only [Zb5,Prod.mk.injEq,true_and]
 have hw:IntKind.i64.wrap ((BitVec.ofInt 64 how&&&BitVec.ofInt 64 3).toNat:Int)=((BitVec.ofInt 64 how&&&BitVec.ofInt 64 3).toNat:Int):=ZbI (by omega) (by omega)
 exact congrArg (fun z=>AV.sc (.int .i64 z)) hw
def mxC (l:List Mx):List AV:=l.flatMap fun x=>[str x.1,int x.2.1,.sl x.2.2.1 none (x.2.2.2.map u8)]
theorem Zqz {l:List Mx}:(mxC l).length=l.length*3:=by
 induction l with
 | nil=>rfl
 | cons m l ih=>simp only [mxC,List.flatMap_cons,List.length_append,List.length_cons,List.length_nil] at ih ⊢;omega
theorem ZqA:∀ {l:List Mx} {n:Nat},n=l.length→chunks (some 3) n (mxC l)=l.map mxV
 | [],_,rfl=>rfl
 | m::l,_,rfl=>by
  simp only [mxC,List.flatMap_cons,List.length_cons,chunks,List.map_cons]
  have:=ZqA (l:=l) rfl
  simp only [mxC] at this
  rw [←this];rfl
theorem ZEg {l:List Mx} {x:Mx}:mxC (l++[x])=mxC l++[str x.1,int x.2.1,.sl x.2.2.1 none (x.2.2.2.map u8)]:=by simp [mxC]
def mbX (m:Mb):Mx:=(m.1,(m.2.1:Int),nl0 m.2.2.1.length,m.2.2.1)
theorem ZIL {l:List Mb}:(l.map mbX).map mxV=l.map mbV:=by rw [List.map_map];rfl
def mbK (m:Mb):List UInt8 × Int × List UInt8:=(m.1,(m.2.1:Int),m.2.2.1)
theorem ZIM {l:List Mb}:(l.map mbX).map mxK=l.map mbK:=by rw [List.map_map];rfl
def bkI (xs:List Mx) (x:Nat × Nat × Nat × List UInt8 × List Mb × List Mx):Prop :=
 x.1≤xs.length∧x.2.1≤3000∧x.2.2.1≤x.1∧x.2.2.2.1=ZnG x.2.2.2.2.1∧x.2.2.2.2.1.length=x.2.2.1∧x.2.2.2.2.2.length=x.2.2.1∧(∀ m∈x.2.2.2.2.1,okM m)∧szB x.2.2.2.2.1≤x.2.1∧x.2.2.2.1.length≤5000*x.2.2.1+10*x.2.1∧x.2.2.2.2.1.map mbK=x.2.2.2.2.2.map mxK
set_option maxHeartbeats 2000000 in
set_option maxRecDepth 100000 in
theorem ZrF [Tabs Tryz.prog] (htI:Tabs.tab Tryz.prog 1=some (Zhz.map nA)) (htD:Tabs.tab Tryz.prog 0=some (tlO.map nA)) (nl:Bool) (xs:List Mx) (how:Int) :
  Con Tryz.prog ZdO [.sl nl (some 3) (xs.map mxV),int how] (boo true):=by
 refine Con.of' mix Tryz.func6 rfl Tryz.ntmps6 Zh8 Zh9 (by simp) (by simp only [AV.free,AV.free.freeL,ZnZ,int,Bool.and_self]) rfl ?_
 unfold Zd9
 repeat (first | refine zS ?_ | exact zT)
 refine Zay _ (.inl ⟨rfl,ZrE⟩) ?_
 by_cases c1:10<(xs.length:Int)
 ·have d1:=decide_eq_true c1
  repeat (first | refine zR (ja2 @List.length_map.{0,0} @d1) ?_ | exact zU (ja2 @List.length_map.{0,0} @d1))
 have d1:=decide_eq_false c1
 obtain ⟨q,hq3,hq⟩:=ZIV how
 repeat (first | refine zR (ja2 @List.length_map.{0,0} @d1) ?_ | exact zU (ja2 @List.length_map.{0,0} @d1))
 refine SWp.adopt 5 none (by (first | exact yT | refine yS ?_)) ?_
 refine SWp.adopt 6 (some 3) (by (first | exact yT | refine yS ?_)) ?_
 refine SWp.loop (α:=Nat × Nat × Nat × List UInt8 × List Mb × List Mx) (fun x=>mk 91 (2*x.2.2.1+2) [(0,.sl nl (some 3) (xs.map mxV)),(1,int how),(4,boo false),(5,.own 5 (2*x.2.2.1) none 0 x.2.2.2.1.length),(6,.own 6 (2*x.2.2.1+1) (some 3) 0 x.2.2.1),(7,int (x.2.1:Int)),(8,int (x.1:Int))]
   [(5,2*x.2.2.1,.row (nl0 x.2.2.2.1.length) (x.2.2.2.1.map u8)),(6,2*x.2.2.1+1,.row (nl0 x.2.2.1) (mxC x.2.2.2.2.2))])
  (bkI xs) (fun x=>xs.length-x.1) (0,0,0,[],[],[]) ⟨Nat.zero_le _,by simp only;omega,Nat.le_refl _,rfl,rfl,rfl,by simp,Nat.le_refl _,Nat.le_refl _,rfl⟩ (Zau rfl ?_ ?_ ?_) ?_
 ·exact Nat.le_refl _
 iterate 2 (case _=>(first | exact yU (ja5 @List.length_nil.{0} @mxC.eq_1 @List.flatMap_nil.{0,0} @Zbw @List.map_nil.{0,0}) | refine yR (ja5 @List.length_nil.{0} @mxC.eq_1 @List.flatMap_nil.{0,0} @Zbw @List.map_nil.{0,0}) ?_))
 rintro ⟨k,n,s,B,ms,ws⟩ ⟨hk,hn,hs,hB,hms,hws,hok,hsz,hBl,hmk⟩ -
 simp only at hk hn hs hB hms hws hok hsz hBl hmk ⊢
 by_cases c:k<xs.length
 ·have dk:decide ((k:Int)<(xs.length:Int))=true:=decide_eq_true (by omega)
  have g1:=ZrC c
  obtain ⟨x,hx⟩:∃ x,x=xs[k]:=⟨_,rfl⟩
  rw [←hx] at g1
  obtain ⟨nm,mt,nx,D⟩:=x
  simp only [mxV] at g1
  by_cases c2:3000-(n:Int)<(D.length:Int)
  ·have d2:=decide_eq_true c2
   repeat (first | refine zR (ja4 @List.length_map.{0,0} @dk @g1 @d2) ?_ | exact zU (ja4 @List.length_map.{0,0} @dk @g1 @d2))
  have d2:=decide_eq_false c2
  obtain ⟨w,hw⟩:∃ w,w=(q+k) % 3:=⟨_,rfl⟩
  have hwm:Int.tmod ((q:Int)+(k:Int)) 3=(w:Int):=by
   rw [Int.tmod_eq_emod_of_nonneg (by omega)];omega
  have fa:AV.free.freeL [mbA ⟨nm.toArray⟩ mt nx D,int (w:Int)]=true:=by simp only [mbA,AV.free,AV.free.freeL,Zak,int,Bool.and_self]
  by_cases hb:ZGW nm mt=0
  ·have hh:0≤mt∧mt≤4294967295∧nm.length≤200∧Lib.indexByte nm 0<0:=by
    unfold ZGW at hb
    split at hb
    ·cases hb
    ·split at hb
     ·cases hb
     ·omega
   obtain ⟨t,rfl⟩:∃ t:Nat,mt=t:=⟨mt.toNat,by omega⟩
   have q2:=ZBR htD nx D (by omega) (w:Int)
   have hlen:=ZB2 (b:=D) (by omega) (how:=(w:Int))
   obtain ⟨hf,hback⟩:=ZEe (b:=D) (by omega) (how:=(w:Int)) (by omega) (by omega)
   obtain ⟨⟨K,f⟩,hr⟩:∃ r,r=ZD6 D (w:Int):=⟨_,rfl⟩
   rw [←hr] at q2 hlen hf hback
   simp only at hf hlen hback
   subst hf
   have e2:ZIT (K,0) = .tup [.sl false none (K.map u8),int 0]:=rfl
   rw [e2] at q2
   have q1:=Zto ⟨nm.toArray⟩ hh.2.2.1 hh.2.2.2 t (by omega) nx D (by omega) (w:Int) K (by omega) q2
   rw [show (⟨nm.toArray⟩:ByteArray).data.toList=nm from rfl] at q1
   have hml:=ZoP (m:=(nm,t,D,K))
   have hhd:=ZoG (nm:=nm) (mt:=t)
   simp only at hml
   obtain ⟨X,hX⟩:∃ X,X=hdB nm t++(K++tlB D):=⟨_,rfl⟩
   have hXm:X=mbB (nm,t,D,K):=hX
   rw [←hX] at q1
   rw [←hXm] at hml
   have hXl:18≤X.length:=hml.1
   have hcat:B++X=ZnG (ms++[(nm,t,D,K)]):=by rw [ZAQ,ZAS,hB,hXm]
   have hnlB:(nl0 B.length&&(X.map u8).isEmpty)=nl0 (B.length+X.length):=Zwc
   have hws2:s*3=(mxC ws).length:=by rw [Zqz,hws]
   have hmc:mxC (ws++[(nm,(t:Int),nx,D)])=mxC ws++[str nm,int (t:Int),.sl nx none (D.map u8)]:=ZEg
   have e3:nl0 (s+1)=false:=rfl
   clear hX hr hx
   repeat (first | refine zR (ja6 @List.length_map.{0,0} @dk @g1 @d2 @hq @hwm) ?_ | exact zU (ja6 @List.length_map.{0,0} @dk @g1 @d2 @hq @hwm))
   refine Zay _ (.inl ⟨fa,q1⟩) ?_
   repeat (first | refine zR (ja7 @List.length_map.{0,0} @dk @g1 @d2 @hq @hwm @hnlB) ?_ | exact zU (ja7 @List.length_map.{0,0} @dk @g1 @d2 @hq @hwm @hnlB))
   refine ⟨⟨_,rfl,rfl⟩,⟨fun y hy=>⟨_,List.mem_singleton.1 hy⟩,hws2,by omega,by omega⟩,?_⟩
   repeat (first | refine zR @List.length_map.{0,0} ?_ | exact zU @List.length_map.{0,0})
   refine At.of (k+1,n+D.length,s+1,B++X,ms++[(nm,t,D,K)],ws++[(nm,(t:Int),nx,D)]) ⟨by simp only;omega,by simp only;omega,by simp only;omega,hcat,by simp only [List.length_append,List.length_cons,List.length_nil];omega,by simp only [List.length_append,List.length_cons,List.length_nil];omega,?_,?_,?_,?_⟩ (by simp only;omega) rfl rfl ?_ ?_ ?_
   ·intro m hm
    rcases List.mem_append.1 hm with hm | hm
    ·exact hok m hm
    ·rw [List.mem_singleton] at hm
     subst hm
     exact ⟨hh.2.2.1,hh.2.2.2,show t<4294967296 by omega,show D.length≤1000000 by omega,hback⟩
   ·simp only [ZuO,ZAR];omega
   ·simp only [List.length_append];omega
   ·simp only [List.map_append,hmk,List.map_cons,List.map_nil,mbK,mxK]
   ·simp only;omega
   ·(first | exact yU @List.length_append.{0} | refine yR @List.length_append.{0} ?_)
    omega
   ·(first | exact yU (ja3 @hmc @e3 @List.length_append.{0}) | refine yR (ja3 @hmc @e3 @List.length_append.{0}) ?_)
    exact ⟨by omega,by omega,rfl⟩
  ·have q1:=Zu6 nm mt nx D (w:Int) hb
   obtain ⟨g,hg⟩:∃ g,g=ZGW nm mt:=⟨_,rfl⟩
   rw [←hg] at q1 hb
   have df:decide ((g:Int)=0)=false:=decide_eq_false (by omega)
   clear hg hx
   repeat (first | refine zR (ja6 @List.length_map.{0,0} @dk @g1 @d2 @hq @hwm) ?_ | exact zU (ja6 @List.length_map.{0,0} @dk @g1 @d2 @hq @hwm))
   refine Zay _ (.inl ⟨fa,q1⟩) ?_
   repeat (first | refine zR @df ?_ | exact zU @df)
   refine At.of (k+1,n+D.length,s,B,ms,ws) ⟨by simp only;omega,by simp only;omega,by simp only;omega,hB,hms,hws,hok,by simp only;omega,by simp only;omega,hmk⟩ (by simp only;omega) rfl rfl (Nat.le_refl _) ?_ ?_
   iterate 2 (case _=>(first | exact yT | refine yS ?_))
 ·obtain rfl:k=xs.length:=by omega
  have dk:decide ((xs.length:Int)<(xs.length:Int))=false:=decide_eq_false (by omega)
  repeat (first | refine zR (ja2 @List.length_map.{0,0} @dk) ?_ | exact zU (ja2 @List.length_map.{0,0} @dk))
  have lk0:=ZmO (a:=0) (e:=0) (by omega) (by omega) (by omega) (by omega)
  have lk2:=ZmO (a:=0) (e:=2) (by omega) (by omega) (by omega) (by omega)
  rcases Nat.eq_zero_or_pos s with h0 | h0
  ·subst h0
   obtain rfl:ms=[]:=List.length_eq_zero_iff.1 hms
   obtain rfl:B=[]:=hB
   have p1:=ZpM n (by omega)
   refine Zfo 5 (2*0) (nl:=true) (cells:=[]) [.sl true none [],int (n:Int)] _ (by (first | exact yU @Zbw | refine yR @Zbw ?_)) (by (first | exact yT | refine yS ?_)) ?_ (by (first | exact yT | refine yS ?_)) p1 ?_
   ·(first | exact yU fR | refine yR fR ?_)
   repeat (first | refine zR (ja3 fR @lk2 @ZjN) ?_ | exact zU (ja3 fR @lk2 @ZjN))
  ·have hBl2:B.length≤1000000:=by omega
   have hBp:0<B.length:=by
    rw [hB]
    cases ms with
    | nil=>simp only [List.length_nil] at hms;omega
    | cons m l=>simp only [ZnG,List.flatMap_cons,List.length_append];have:=(ZoP (m:=m)).1;omega
   have hne:ms≠[]:=fun e=>by rw [e] at hms;simp only [List.length_nil] at hms;omega
   have p1:=Zro htI ms hne hok (by rw [←hB];exact hBl2) (by omega) n (by omega) hsz
   rw [←hB] at p1
   have p2:=ZyD false false (ms.map mbX) ws (by rw [ZIM,hmk]) (by rw [List.length_map];omega)
   rw [ZIL] at p2
   have hnB:=Zcg hBp
   have hns:=Zcg h0
   have dz:decide ((s:Int)=0)=false:=decide_eq_false (by omega)
   have hch:=ZqA (l:=ws) hws.symm
   have hml:(mxC ws).length=s*3:=by rw [Zqz,hws]
   have htB:B.take B.length=B:=List.take_length
   refine Zfo 5 (2*s) (nl:=nl0 B.length) (cells:=B.map u8) [.sl false none (B.map u8),int (n:Int)] _ (by (first | exact yT | refine yS ?_)) (by (first | exact yT | refine yS ?_)) ?_ (by (first | exact yT | refine yS ?_)) p1 ?_
   ·(first | exact yU (ja4 fR @hnB @List.length_map.{0,0} @htB) | refine yR (ja4 fR @hnB @List.length_map.{0,0} @htB) ?_)
   repeat (first | refine zR (ja4 fR @lk0 @ZjN @dz) ?_ | exact zU (ja4 fR @lk0 @ZjN @dz))
   refine Zay (boo true) (.inr ⟨rfl,?_,?_⟩) ?_
   ·(first | exact yU (ja5 @Zrn @ZnZ @hch @hml @hns) | refine yR (ja5 @Zrn @ZnZ @hch @hml @hns) ?_)
   ·(first | exact yU (ja3 @hch @hml @hns) | refine yR (ja3 @hch @hml @hns) ?_)
    exact p2
   repeat (first | refine zS ?_ | exact zT)
theorem ZrG {P:Program} {w:World} {n:String} {d:DataW Unit}:∀ {l:List (String × DataW Unit)} {ps:List MemPlace},DataW.LaidVars P w l ps→(n,d)∈l →
  ∃ g t cs fuel p,P.globalNamed n=some g∧(P.globals[g]?).map (·.type)=some t∧w.var? P n=some cs∧DataW.trod (fun _=>()) P w 0 (fun _=>true) false fuel t cs.toList=some (d,p)
 | [],_,_,hm=>by simp at hm
 | (n',d')::r,ps,h,hm=>by
  obtain ⟨g,t,cs,fuel,p,q,h1,h2,h3,h4,h5,_⟩:=h
  rcases List.mem_cons.1 hm with e | hm
  ·cases e;exact ⟨g,t,cs,fuel,p,h1,h2,h3,h4⟩
  ·exact ZrG h5 hm
theorem ZIs {P:Program} {W:World} {n:String} {g:Nat} {cs:Array Value} (hg:P.globalNamed n=some g) (zs:List Value) (h3:W.var? P n=some cs) (hz:cs.toList=zs) (h1:∀ v∈zs,v.oneCell'=true) :
  (all W).S g∧AV.free.freeL (zs.map AV.sc)=true∧∃ (cs:List Value) (E:TypeId) (fr:Nat × Nat),RdL ⟨(all W).S,fun _ _=>none⟩ W (zs.map AV.sc) cs∧W.heap[g]? = some (Obj.cells cs.toArray E fr)∧∀ v∈cs,v.oneCell'=true:=by
 unfold World.var? at h3
 rw [hg,Option.bind_some] at h3
 split at h3
 ·rename_i cs' E fr hheap
  simp only [Option.some.injEq] at h3
  subst h3
  exact ⟨Zg8 hheap,ZzX _,zs,E,fr,Ze6 _,by rw [hheap,←hz],h1⟩
 ·simp at h3
theorem Ztp (l:List Nat):l.map nA=(l.map fun x:Nat=>Value.int .i64 (x:Int)).map AV.sc:=by simp only [List.map_map];rfl
theorem ZIN:(Rows.laid_drayage_inflate_tellers:DataW Unit)=Lib.tabData .i64 (Zhz.map fun x:Nat=>(x:Int)):=by kernel_rfl
theorem ZIO:(Rows.laid_drayage_deflate_tellers:DataW Unit)=Lib.tabData .i64 (Zhz.map fun x:Nat=>(x:Int)):=by kernel_rfl
theorem ZIt:Tryz.prog.globalNamed "drayage/inflate.tellers" = some 1:=by kernel_rfl
theorem ZIu:Tryz.prog.globalNamed "drayage/deflate.tellers" = some 0:=by kernel_rfl
theorem ZIW:(Tryz.prog.globals[1]?).map (·.type)=some 155:=by kernel_rfl
theorem ZIX:(Tryz.prog.globals[0]?).map (·.type)=some 155:=by kernel_rfl
@[reducible] def ZjO:Tabs Tryz.prog:=⟨fun g=>if g=1 then some (Zhz.map nA) else if g=0 then some (Zhz.map nA) else none⟩
theorem ZEh:@Tabs.tab Tryz.prog ZjO 1=some (Zhz.map nA):=rfl
theorem ZEi:@Tabs.tab Tryz.prog ZjO 0=some (Zhz.map nA):=rfl
theorem ZB3 (W:World) (h:laidMetH Tryz.prog [("drayage/deflate.tellers",Rows.laid_drayage_deflate_tellers),("drayage/inflate.tellers",Rows.laid_drayage_inflate_tellers)] W):@TabOk Tryz.prog ZjO (all W).S W:=by
 rw [MakeChecks.laidMetH_plain _ _ _ (by kernel_rfl)] at h
 obtain ⟨ps,h,_⟩:=h
 obtain ⟨g1,t1,cs1,fuel1,p1,a1,b1,c1,d1⟩:=ZrG (n := "drayage/inflate.tellers") (d:=Rows.laid_drayage_inflate_tellers) h (by simp)
 obtain ⟨g2,t2,cs2,fuel2,p2,a2,b2,c2,d2⟩:=ZrG (n := "drayage/deflate.tellers") (d:=Rows.laid_drayage_deflate_tellers) h (by simp)
 obtain rfl:=Option.some.inj (ZIt.symm.trans a1)
 obtain rfl:=Option.some.inj (ZIW.symm.trans b1)
 obtain rfl:=Option.some.inj (ZIu.symm.trans a2)
 obtain rfl:=Option.some.inj (ZIX.symm.trans b2)
 rw [ZIN] at d1
 rw [ZIO] at d2
 have e1:=Lib.cells_of_tab Tryz.underlying155 Tryz.underlying3 (by kernel_rfl) (by kernel_rfl) d1
 have e2:=Lib.cells_of_tab Tryz.underlying155 Tryz.underlying3 (by kernel_rfl) (by kernel_rfl) d2
 intro g xs hg
 simp only [ZjO,Tabs.tab] at hg
 split at hg
 ·rename_i e
  subst e
  cases hg
  rw [Ztp]
  refine ZIs ZIt _ c1 (e1.trans (by rw [List.map_map];rfl)) ?_
  intro v hv
  obtain ⟨z,_,rfl⟩:=List.mem_map.1 hv
  rfl
 split at hg
 ·rename_i e
  subst e
  cases hg
  rw [Ztp]
  refine ZIs ZIu _ c2 (e2.trans (by rw [List.map_map];rfl)) ?_
  intro v hv
  obtain ⟨z,_,rfl⟩:=List.mem_map.1 hv
  rfl
 ·simp at hg
@[reducible] def Zim:Tabs Tryz.prog:=ZjO
theorem ZpN (W:World) (h:laidMetH Tryz.prog Rows.gzipBackRow.laid W):@TabOk Tryz.prog Zim (all W).S W:=ZB3 W h
theorem Ztq (x:Bool × List (List UInt8 × Int × (Bool × List UInt8) × Unit)) {p:Prop} (hx:p) (how:Int) (h3:IntKind.i64.min≤how) (h4:how≤IntKind.i64.max) :
  @Con Tryz.prog Zim ZdO [.sl x.1 (some 3) (x.2.map fun a=>.agg ([str a.1]++([.sc (.int .i64 a.2.1)]++([.sl a.2.2.1.1 none (a.2.2.1.2.map u8)]++[])))),int how] (boo true):=by
 have h:=@ZrF ZjO ZEh (by rw [show tlO=Zhz from rfl];exact ZEi) x.1 (x.2.map fun a=>(a.1,a.2.1,a.2.2.1)) how
 rw [List.map_map] at h
 exact h
end Go.Proofs.YtbcncdpaigljeaaGreatDoor.Aw
