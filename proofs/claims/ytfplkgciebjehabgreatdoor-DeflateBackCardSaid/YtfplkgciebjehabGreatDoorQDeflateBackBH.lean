/- Parts of the proof of DeflateBack. -/
import Derived.Test.YtfplkgciebjehabGreatDoorQDeflateBackBG
import Derived.Test.YtfplkgciebjehabGreatDoorQDeflateBackBE
import Derived.Test.YtfplkgciebjehabGreatDoorQDeflateBackBF
import Derived.Test.YtfplkgciebjehabGreatDoorQDeflateBackBD
namespace Go.Proofs.YtfplkgciebjehabGreatDoor.Aw
open Go
set_option linter.defProp false
set_option maxRecDepth 100000
set_option linter.unusedSimpArgs false
set_option linter.unusedVariables false
def BH0:=ja2 @wrR.eq_1 iR
theorem Zhr [Tabs Tryz.prog] (L:List Nat) (hl:L.length≤1900000) (hL:∀ x∈L,x<2) (u v:Nat) (hu:u<2) (hv:v<4) (i m:Nat) (hi:i=L.length) (hm:m=(L.length+7) / 8) :
  HCon Tryz.prog ZbZ [.agg [.op 1000 0 0],.sc (.int .i64 (u:Int)),.sc (.int .i64 (v:Int))] [.row false (wrR 0 m i),.row (nl0 m) ((Zax L).map u8)] (.tup [])
   [(1000,0,.row false (wrR 123 ((i+1+2+7) / 8) (i+1+2))),(1001,123,.row (nl0 ((i+1+2+7) / 8)) ((Zax (L++(ZbE u 1++ZbE v 2))).map u8))] 124:=by
 refine HCon.of' mix Tryz.func34 rfl Tryz.ntmps34 Zi1 Zi2 zB (by simp [AV.gl,AV.gl.glL]) Zmd ?_
 unfold ZeE
 have p1:=Zf0 L zO hL u zO 1 zO i m hi hm
 have hL1:∀ x∈L++ZbE u 1,x<2:=fun x hx=>(List.mem_append.1 hx).elim (hL x) (Zfn x)
 have hl1:(L++ZbE u 1).length=i+1:=by rw [List.length_append,Zar,hi]
 have p2:=Zf0 (L++ZbE u 1) zO hL1 v zO 2 zO (i+1) ((i+1+7) / 8) zO zO
 rw [List.append_assoc] at p2
 obtain ⟨b1,e1⟩:∃ b,b=Zax (L++ZbE u 1):=⟨_,rfl⟩
 obtain ⟨b2,e2⟩:∃ b,b=Zax (L++(ZbE u 1++ZbE v 2)):=⟨_,rfl⟩
 rw [←e1] at p1 p2
 rw [←e2] at p2 ⊢
 repeat (first|refine zS ?_|exact zT)
 refine Zae [(1000,0),(1001,0)] 2000 p1 zB zB ?_ ?_ ?_
 iterate 2 (case _=>(first|exact yU @wrR.eq_1|refine yR @wrR.eq_1 ?_))
 repeat (first|refine zR BH0 ?_|exact zU BH0)
 refine Zae [(1000,0),(1001,62)] 3000 p2 zB zB ?_ ?_ ?_
 iterate 2 (case _=>(first|exact yU @wrR.eq_1|refine yR @wrR.eq_1 ?_))
 repeat (first|refine zR BH0 ?_|exact zU BH0)
def ZrR (last:Nat) (b:List UInt8):List UInt8 :=
 UInt8.ofNat last::UInt8.ofNat (b.length % 256)::UInt8.ofNat (b.length / 256)::UInt8.ofNat ((65535-b.length) % 256)::UInt8.ofNat ((65535-b.length) / 256)::b
theorem ZDA {X:List UInt8} {c:UInt8}:Zah (X++[c])=Zah X++ZdA c:=by rw [ZbD];simp [Zah]
theorem Zyh {X:List UInt8} {u:Nat} (hu:u<2):Zax (Zah X++(ZbE u 1++ZbE 0 2))=X++[UInt8.ofNat u]:=by
 rw [←ZA7]
 have hl:(Zah X++(ZbE u 1++ZbE 0 2)).length=8*X.length+3:=by rw [List.length_append,Zac,List.length_append,Zar,Zar]
 have:ZF1 (Zah X++(ZbE u 1++ZbE 0 2))=Zah (X++[UInt8.ofNat u]):=by
  unfold ZF1
  rw [hl,show 8*((8*X.length+3+7) / 8)-(8*X.length+3)=5 by omega,ZDA,List.append_assoc]
  congr 1
  obtain rfl | rfl:u=0∨u=1:=zO
  ·decide
  ·decide
 rw [this,Zf1]
theorem ZF2 {n:Nat} (h:n<65536):ZbE n 16=ZdA (UInt8.ofNat (n % 256))++ZdA (UInt8.ofNat (n / 256)):=by
 have e1:(UInt8.ofNat (n % 256)).toNat=n % 256:=by rw [UInt8.toNat_ofNat'];omega
 have e2:(UInt8.ofNat (n / 256)).toNat=n / 256:=by rw [UInt8.toNat_ofNat'];omega
 refine List.ext_getElem (by simp [ZbE,ZdA]) fun k h1 h2=>?_
 have hk:k<16:=by simpa [ZbE] using h1
 simp only [ZbE,List.getElem_map,List.getElem_range]
 by_cases c:k<8
 ·rw [List.getElem_append_left (by rw [ZaW];exact c)]
  simp only [ZdA,List.getElem_map,List.getElem_range,e1]
  have h8:2^k*2^(8-k)=256:=by rw [←Nat.pow_add,show k+(8-k)=8 by omega]
  rw [←h8,Nat.mod_mul_right_div_self]
  rw [show 8-k=(7-k)+1 by omega,Nat.pow_succ,Nat.mul_comm,Nat.mod_mul_right_mod]
 ·rw [List.getElem_append_right (by rw [ZaW];omega)]
  simp only [ZdA,List.getElem_map,List.getElem_range,e2,List.length_map,List.length_range]
  have h8:256*2^(k-8)=2^k:=by rw [show (256:Nat)=2^8 from rfl,←Nat.pow_add,show 8+(k-8)=k by omega]
  rw [Nat.div_div_eq_div_mul,h8]
theorem Zv5 {X:List UInt8} {n:Nat} (h:n<65536):Zah X++ZbE n 16=Zah (X++[UInt8.ofNat (n % 256),UInt8.ofNat (n / 256)]):=by
 rw [ZF2 h,ZbD]
 simp [Zah]
theorem ZfL [Tabs Tryz.prog] (X:List UInt8) (hX:X.length≤200000) (u:Nat) (hu:u<2) (nl:Bool) (b:List UInt8) (hb:b.length≤65535) (i m m':Nat) (hm:m=X.length) (hi:i=8*m) (hm':m'=m+5+b.length) :
  HCon Tryz.prog ZbL [.agg [.op 1000 0 0],.sc (.int .i64 (u:Int)),.sl nl none (b.map u8)] [.row false (wrR 0 m i),.row (nl0 m) (X.map u8)] (.tup [])
   [(1000,0,.row false (wrR 250 m' (8*m'))),(1001,250,.row (nl0 m') ((X++ZrR u b).map u8))] 252:=by
 refine HCon.of' mix Tryz.func33 rfl Tryz.ntmps33 ZfQ ZfR zB (by simp only [AV.gl,AV.gl.glL,and_true,true_and];exact ⟨by omega,Zag _ _ ZaD⟩) Zmd ?_
 unfold ZcI
 obtain ⟨n,hn⟩:∃ n,n=b.length:=⟨_,rfl⟩
 have p1:=Zhr (Zah X) (by rw [Zac];omega) ZdI u 0 hu zO i m (by rw [Zac];omega) (by rw [Zac];omega)
 rw [Zf1,Zyh hu] at p1
 obtain ⟨X1,hX1⟩:∃ Y,Y=X++[UInt8.ofNat u]:=⟨_,rfl⟩
 have l1:X1.length=m+1:=by rw [hX1];simp [hm]
 have em1:(i+1+2+7) / 8=m+1:=zO
 rw [←hX1,em1] at p1
 have p2:=Zmf X1 zO (i+1+2) (m+1) l1.symm
 have p3:=Zf0 (Zah X1) (by rw [Zac];omega) ZdI n zO 16 zO (8*(m+1)) (m+1) (by rw [Zac];omega) (by rw [Zac];omega)
 rw [Zf1,Zv5 zO,Zf1] at p3
 obtain ⟨X2,hX2⟩:∃ Y,Y=X1++[UInt8.ofNat (n % 256),UInt8.ofNat (n / 256)]:=⟨_,rfl⟩
 have l2:X2.length=m+3:=by rw [hX2];simp [l1]
 have em2:(8*(m+1)+16+7) / 8=m+3:=zO
 have ei2:8*(m+1)+16=8*(m+3):=zO
 rw [←hX2,em2,ei2] at p3
 have p4:=Zf0 (Zah X2) (by rw [Zac];omega) ZdI (65535-n) zO 16 zO (8*(m+3)) (m+3) (by rw [Zac];omega) (by rw [Zac];omega)
 rw [Zf1,Zv5 zO,Zf1] at p4
 obtain ⟨X3,hX3⟩:∃ Y,Y=X2++[UInt8.ofNat ((65535-n) % 256),UInt8.ofNat ((65535-n) / 256)]:=⟨_,rfl⟩
 have l3:X3.length=m+5:=by rw [hX3];simp [l2]
 have em3:(8*(m+3)+16+7) / 8=m+5:=zO
 have ei3:8*(m+3)+16=8*(m+5):=zO
 rw [←hX3,em3,ei3] at p4
 have p5:=Zu1 X3 zO nl b zO (8*(m+5)) (m+5) l3.symm
 have hfin:X3++b=X++ZrR u b:=by rw [hX3,hX2,hX1,hn];simp [ZrR]
 rw [hfin,←hm'] at p5
 obtain ⟨Y,hY⟩:∃ Y,Y=X++ZrR u b:=⟨_,rfl⟩
 rw [←hY] at p5 ⊢
 obtain ⟨n',hn'⟩:∃ n',n'=65535-n:=⟨_,rfl⟩
 have en:(65535:Int)-(n:Int)=(n':Int):=zO
 rw [←hn'] at p4
 clear hfin hY hX3 hX2 hX1
 repeat (first|refine zS ?_|exact zT)
 refine Zae [(1000,0),(1001,0)] 2000 p1 zB zB ?_ ?_ ?_
 iterate 2 (case _=>(first|exact yU @wrR.eq_1|refine yR @wrR.eq_1 ?_))
 repeat (first|refine zR BH0 ?_|exact zU BH0)
 refine Zae [(1000,0),(1001,125)] 3000 p2 zB zB ?_ ?_ ?_
 iterate 2 (case _=>(first|exact yU @wrR.eq_1|refine yR @wrR.eq_1 ?_))
 repeat (first|refine zR (ja4 @wrR.eq_1 iR @List.length_map.{0,0} hn.symm) ?_|exact zU (ja4 @wrR.eq_1 iR @List.length_map.{0,0} hn.symm))
 refine Zae [(1000,0),(1001,125)] 4000 p3 zB zB ?_ ?_ ?_
 iterate 2 (case _=>(first|exact yU @wrR.eq_1|refine yR @wrR.eq_1 ?_))
 repeat (first|refine zR (ja5 @wrR.eq_1 iR @List.length_map.{0,0} hn.symm @en) ?_|exact zU (ja5 @wrR.eq_1 iR @List.length_map.{0,0} hn.symm @en))
 refine Zae [(1000,0),(1001,187)] 5000 p4 zB zB ?_ ?_ ?_
 iterate 2 (case _=>(first|exact yU @wrR.eq_1|refine yR @wrR.eq_1 ?_))
 repeat (first|refine zR BH0 ?_|exact zU BH0)
 refine Zae [(1000,0),(1001,248)] 6000 p5 zB zB ?_ ?_ ?_
 iterate 2 (case _=>(first|exact yU @wrR.eq_1|refine yR @wrR.eq_1 ?_))
 repeat (first|refine zR BH0 ?_|exact zU BH0)
def stK (b:List UInt8):Nat→List UInt8
 | 0=>[]
 | k+1=>stK b k++ZrR 0 ((b.drop (65535*k)).take 65535)
def stL (b:List UInt8):List UInt8:=stK b ((b.length-1) / 65535)++ZrR 1 (b.drop (65535*((b.length-1) / 65535)))
theorem ZgI {u:Nat} {b:List UInt8}:(ZrR u b).length=b.length+5:=rfl
theorem Zm7 {b:List UInt8}:∀ {k:Nat},65535*k≤b.length→(stK b k).length=65540*k
 | 0,_=>rfl
 | k+1,h=>by rw [stK,List.length_append,Zm7 zO,ZgI,List.length_take,List.length_drop];omega
def BH2:=ja3 @wrR.eq_1 iR @List.length_map.{0,0}
theorem Zpe [Tabs Tryz.prog] (nl:Bool) (b:List UInt8) (hb:b.length≤170000) (m':Nat) (hm':m'=(stL b).length) :
  HCon Tryz.prog Zd7 [.agg [.op 1000 0 0],.sl nl none (b.map u8)] [.row false (wrR 0 0 0),.row true []] (.tup [])
   [(1000,0,.row false (wrR 2251 m' (8*m'))),(1001,2251,.row (nl0 m') ((stL b).map u8))] 2253:=by
 refine HCon.of' mix Tryz.func14 rfl Tryz.ntmps14 Zim Zin zB (by simp only [AV.gl,AV.gl.glL,and_true,true_and];exact ⟨by omega,Zag _ _ ZaD⟩) (Zmd (b:=[])) ?_
 unfold Zee
 obtain ⟨n,hn⟩:∃ n,n=b.length:=⟨_,rfl⟩
 obtain ⟨Q,hQ⟩:∃ Q,Q=(n-1) / 65535:=⟨_,rfl⟩
 have hstL:stL b=stK b Q++ZrR 1 (b.drop (65535*Q)):=by rw [stL,←hn,←hQ]
 repeat (first|refine zS ?_|exact zT)
 refine SWp.loop (α:=Nat × Nat × Nat) (fun x=>mk 16 x.2.2 [(1,.sl nl none ((b.drop (65535*x.1)).map u8)),(2,.op 2 1 0)] [(2,1,.row false [.op 1000 0 0]),(1000,0,.row false (wrR x.2.1 (65540*x.1) (8*(65540*x.1)))),(1001,x.2.1,.row (nl0 (65540*x.1)) ((stK b x.1).map u8))])
  (fun x=>x.1≤Q∧x.2.2≤2+252*x.1) (fun x=>Q-x.1) (0,0,2) ⟨Nat.zero_le _,by simp⟩ (Zaj rfl ?_ ?_ ?_) ?_
 ·exact Nat.le_refl _
 iterate 2 (case _=>(first|exact yU (ja4 @wrR.eq_1 @stK.eq_1 @stK.eq_2 @Zbh)|refine yR (ja4 @wrR.eq_1 @stK.eq_1 @stK.eq_2 @Zbh) ?_))
 rintro ⟨k,g,gc⟩ ⟨hk,hgc⟩ -
 simp only at hk hgc
 obtain ⟨r,hr⟩:∃ r,r=b.drop (65535*k):=⟨_,rfl⟩
 have hrl:r.length=n-65535*k:=by rw [hr,List.length_drop,hn]
 have hkn:65535*k≤n:=zO
 have hkl:(stK b k).length=65540*k:=Zm7 zO
 obtain ⟨X,hX⟩:∃ X,X=stK b k:=⟨_,rfl⟩
 obtain ⟨m,hm⟩:∃ m,m=65540*k:=⟨_,rfl⟩
 rw [←hX,←hm] at hkl
 simp only [←hr,←hX,←hm]
 by_cases ck:65535<r.length
 ·have dk:decide ((65535:Int)<(r.length:Int))=true:=decide_eq_true zO
  have p1:=ZfL X zO 0 zO nl (r.take 65535) (by rw [List.length_take];omega) (8*m) m (m+65540) hkl.symm rfl (by rw [List.length_take];omega)
  have hs1:X++ZrR 0 (r.take 65535)=stK b (k+1):=by rw [stK,←hX,←hr]
  rw [hs1] at p1
  have hd:r.drop 65535=b.drop (65535*(k+1)):=by rw [hr,List.drop_drop];congr 1
  have hm1:65540*(k+1)=m+65540:=zO
  repeat (first|refine zR (ja2 @List.length_map.{0,0} @dk) ?_|exact zU (ja2 @List.length_map.{0,0} @dk))
  refine Zae [(1000,0),(1001,g)] 2000 p1 zB zB ?_ ?_ ?_
  iterate 2 (case _=>(first|exact yU @wrR.eq_1|refine yR @wrR.eq_1 ?_))
  repeat (first|refine zR BH2 ?_|exact zU BH2)
  refine At.of (k+1,gc+250,gc+252) ⟨by simp only;omega,by simp only;omega⟩ (by simp only;omega) rfl rfl (Nat.le_refl _) ?_ ?_
  iterate 2 (case _=>(first|exact yU (ja3 @hd @wrR.eq_1 @hm1)|refine yR (ja3 @hd @wrR.eq_1 @hm1) ?_))
 ·have dk:decide ((65535:Int)<(r.length:Int))=false:=decide_eq_false zO
  obtain rfl:k=Q:=zO
  have p1:=ZfL X zO 1 zO nl r zO (8*m) m m' hkl.symm rfl (by rw [hm',hstL,←hX,←hr,List.length_append,ZgI];omega)
  rw [hr,hX,←hstL,←hX,←hr] at p1
  iterate 5 (first|refine zR (ja2 @List.length_map.{0,0} @dk) ?_|exact zU (ja2 @List.length_map.{0,0} @dk))
  refine SWp.le (Zaj (N:=16) (gc:=2000) (l:=[(1,.sl nl none (r.map u8)),(2,.op 2 1 0)]) (h:=[(2,1,.row false [.op 1000 0 0]),(1000,0,.row false (wrR g m (8*m))),(1001,g,.row (nl0 m) (X.map u8))]) rfl ?_ ?_ ?_) ?_
  ·(first|exact yT|refine yS ?_)
   omega
  iterate 2 (case _=>(first|exact yT|refine yS ?_))
  refine SWp.renew 1001 g (o:=.row (nl0 m) (X.map u8)) yT ?_
  refine SWp.le (Zaj (N:=16) (gc:=2001) (l:=[(1,.sl nl none (r.map u8)),(2,.op 2 1 0)]) (h:=[(2,1,.row false [.op 1000 0 0]),(1000,0,.row false (wrR 2000 m (8*m))),(1001,2000,.row (nl0 m) (X.map u8))]) rfl ?_ ?_ ?_) ?_
  iterate 3 (case _=>(first|exact yU (ja3 @Zba @wrR.eq_1 @Zbb)|refine yR (ja3 @Zba @wrR.eq_1 @Zbb) ?_))
  repeat (first|refine zR @List.length_map.{0,0} ?_|exact zU @List.length_map.{0,0})
  refine Zae [(1000,0),(1001,2000)] 3000 p1 zB zB ?_ ?_ ?_
  iterate 2 (case _=>(first|exact yU @wrR.eq_1|refine yR @wrR.eq_1 ?_))
  repeat (first|refine zR BH0 ?_|exact zU BH0)
def Zyv (P:List (Nat × Nat)):List Nat:=ZbE 1 1++ZbE 1 2++Zny fxL fxD P
theorem ZkH:286≤fxL.length∧30≤fxD.length:=by decide +kernel
set_option maxHeartbeats 1000000 in
theorem ZpT [Tabs Tryz.prog] (L:List Nat) (hl:L.length≤200000) (hL:∀ x∈L,x<2) (nl:Bool) (P:List (Nat × Nat)) (hP:P.length≤20000) (hok:∀ p∈P,Zlg p) (i m:Nat) (hi:i=L.length) (hm:m=(L.length+7) / 8) (j:Nat) (hj:j=(L++Zyv P).length) :
  HCon Tryz.prog Zez [.agg [.op 1000 0 0],.sl nl (some 2) (P.map pcA)] [.row false (wrR 0 m i),.row (nl0 m) ((Zax L).map u8)] (.tup [])
   [(1000,0,.row false (wrR (126+(KE+1)) ((j+7) / 8) j)),(1001,126+(KE+1),.row (nl0 ((j+7) / 8)) ((Zax (L++Zyv P)).map u8))] (126+(KE+2)):=by
 refine HCon.of' mix Tryz.func15 rfl Tryz.ntmps15 ZiZ Zi0 zB ?_ Zmd ?_
 ·simp only [AV.gl.glL,AV.gl,and_true,true_and]
  exact ⟨by omega,Zag _ _ Zeo⟩
 unfold ZeD
 obtain ⟨X,hX⟩:∃ X,X=L++(ZbE 1 1++ZbE 1 2):=⟨_,rfl⟩
 obtain ⟨Y,hY⟩:∃ Y,Y=L++Zyv P:=⟨_,rfl⟩
 have hXl:X.length=i+1+2:=by rw [hX,List.length_append,List.length_append,Zar,Zar,hi]
 have hX2:∀ x∈X,x<2:=fun x hx=>by
  rw [hX] at hx
  rcases List.mem_append.1 hx with hx | hx
  ·exact hL x hx
  ·rcases List.mem_append.1 hx with hx | hx <;> exact Zfn x hx
 have hYe:X++Zny fxL fxD P=Y:=by rw [hX,hY,Zyv];simp [List.append_assoc]
 have p1:=Zhr L zO hL 1 1 zO zO i m hi hm
 have p2:=ZjF X zO hX2 nl P hP hok fxL fxD Zo6 Ztb ZkH.1 ZkH.2 (i+1+2) ((i+1+2+7) / 8) hXl.symm (by rw [hXl]) j (by rw [hYe,hj,hY])
 have pf:=Ztc
 rw [hYe] at p2
 rw [←hY]
 rw [←hX] at p1
 have hrF:∀ ρ,ren ρ (Zqx fxL fxD)=Zqx fxL fxD:=fun ρ=>Zid ρ _ Zo7
 obtain ⟨F,hF⟩:∃ F,F=Zqx fxL fxD:=⟨_,rfl⟩
 rw [←hF] at p2 pf hrF
 obtain ⟨A,hA⟩:∃ A,A=P.map pcA:=⟨_,rfl⟩
 have hrA:∀ ρ,ren.renL ρ A=A:=fun ρ=>by rw [hA];exact Zbm ρ _ Zeo
 rw [←hA] at p2 ⊢
 repeat (first|refine zS ?_|exact zT)
 refine Zae [(1000,0),(1001,0)] 2000 p1 zB zB ?_ ?_ ?_
 iterate 2 (case _=>(first|exact yU BH0|refine yR BH0 ?_))
 repeat (first|refine zR BH0 ?_|exact zU BH0)
 refine Zaz _ (.inl ⟨rfl,pf⟩) ?_
 repeat (first|refine zR BH0 ?_|exact zU BH0)
 refine Zae [(1000,0),(1001,125)] 3000 p2 zB zB ?_ ?_ ?_
 iterate 2 (case _=>(first|exact yU (ja4 @wrR.eq_1 iR @hrF @hrA)|refine yR (ja4 @wrR.eq_1 iR @hrF @hrA) ?_))
 repeat (first|refine zR BH0 ?_|exact zU BH0)
def ZpU (l:List Nat) (q:Nat):Nat→Nat
 | 0=>0
 | n+1=>if q<n+1∧l.getD n 0=0 then ZpU l q n else n+1
def Zdi (l:List Nat) (q:Nat):List Nat:=l.take (ZpU l q l.length)
theorem Zpf {l:List Nat} {q:Nat}:∀ {n:Nat},ZpU l q n≤n
 | 0=>Nat.le_refl _
 | n+1=>by
  rw [ZpU]
  split
  ·have:=Zpf (l:=l) (q:=q) (n:=n);omega
  ·exact Nat.le_refl _
theorem ZA8 {l:List Nat} {q:Nat}:∀ {n:Nat},q≤n→q≤ZpU l q n
 | 0,h=>by rw [ZpU];exact h
 | n+1,h=>by
  rw [ZpU]
  split
  ·rename_i c;exact ZA8 zO
  ·exact h
theorem ZF3 [Tabs Tryz.prog] (nl:Bool) (l:List Nat) (hl:l.length≤1000) (q:Nat) (hq:q≤1000):Con Tryz.prog ZfN [.sl nl none (l.map nA),.sc (.int .i64 (q:Int))] (.sl nl none ((Zdi l q).map nA)):=by
 refine Con.of' mix Tryz.func81 rfl Tryz.ntmps81 Zq9 Zra zB (by simp only [AV.free,AV.free.freeL,Zaa,Bool.and_self]) (by simp only [AV.free,Zaa]) ?_
 unfold ZlT
 obtain ⟨r,hr⟩:∃ r,r=ZpU l q l.length:=⟨_,rfl⟩
 have hrl:r≤l.length:=by rw [hr];exact Zpf
 have hM:(Zdi l q).map nA=(l.map nA).take r:=by rw [Zdi,←hr,ZgF]
 rw [hM]
 repeat (first|refine zR @List.length_map.{0,0} ?_|exact zU @List.length_map.{0,0})
 refine SWp.loop (α:=Nat) (fun n=>mk 24 0 [(0,.sl nl none (l.map nA)),(1,.sc (.int .i64 (q:Int))),(5,int n)] [])
  (fun n=>n≤l.length∧r=ZpU l q n) (fun n=>n) l.length ⟨Nat.le_refl _,hr⟩ (Zaj rfl ?_ ?_ ?_) ?_
 ·exact Nat.le_refl _
 iterate 2 (case _=>(first|exact yT|refine yS ?_))
 rintro n ⟨hn,hrn⟩ -
 by_cases c1:q<n
 ·have d1:decide ((q:Int)<(n:Int))=true:=decide_eq_true zO
  obtain ⟨k,rfl⟩:∃ k,n=k+1:=⟨n-1,by omega⟩
  have ek:((k+1:Nat):Int)-1=(k:Int):=zO
  have hg:(l.map nA).getD k .junk = .sc (.int .i64 (l.getD k 0:Int)):=Zct zO
  rw [ZpU] at hrn
  obtain ⟨n1,hn1⟩:∃ x,x=k+1:=⟨_,rfl⟩
  rw [←hn1] at d1 ek ⊢
  by_cases c2:l.getD k 0=0
  ·have d2:decide ((l.getD k 0:Int)=0)=true:=decide_eq_true zO
   rw [if_pos ⟨c1,c2⟩] at hrn
   repeat (first|refine zR (ja5 @d1 @ek @hg @d2 @List.length_map.{0,0}) ?_|exact zU (ja5 @d1 @ek @hg @d2 @List.length_map.{0,0}))
   refine At.of k ⟨by omega,hrn⟩ zO rfl rfl (Nat.le_refl _) ?_ ?_
   iterate 2 (case _=>(first|exact yT|refine yS ?_))
  ·have d2:decide ((l.getD k 0:Int)=0)=false:=decide_eq_false zO
   rw [if_neg (fun h=>c2 h.2),←hn1] at hrn
   repeat (first|refine zR (ja6 @d1 @ek @hg @d2 @List.length_map.{0,0} @hrn) ?_|exact zU (ja6 @d1 @ek @hg @d2 @List.length_map.{0,0} @hrn))
 ·have d1:decide ((q:Int)<(n:Int))=false:=decide_eq_false zO
  have hrn':r=n:=by
   rw [hrn]
   cases n with
   | zero=>rfl
   | succ k=>rw [ZpU,if_neg (fun h=>c1 h.1)]
  repeat (first|refine zR (ja3 @d1 @List.length_map.{0,0} @hrn') ?_|exact zU (ja3 @d1 @List.length_map.{0,0} @hrn'))
def ZpV (l:List Nat) (a:Nat):Nat→Nat→Nat
 | 0,n=>n
 | f+1,n=>if a+n<l.length∧l.getD (a+n) 0=l.getD a 0 then ZpV l a f (n+1) else n
theorem ZiC {l:List Nat} {a:Nat}:∀ {f n:Nat},n≤ZpV l a f n∧(a+n≤l.length→a+ZpV l a f n≤l.length)∧∀ i,n≤i→i<ZpV l a f n→l.getD (a+i) 0=l.getD a 0
 | 0,n=>⟨Nat.le_refl _,fun h=>h,fun i h1 h2=>by rw [ZpV] at h2;omega⟩
 | f+1,n=>by
  rw [ZpV]
  split
  ·rename_i c
   obtain ⟨h1,h2,h3⟩:=ZiC (l:=l) (a:=a) (f:=f) (n:=n+1)
   refine ⟨by omega,fun _=>h2 zO,fun i hi hi2=>?_⟩
   by_cases e:i=n
   ·rw [e];exact c.2
   ·exact h3 i zO hi2
  ·exact ⟨Nat.le_refl _,fun h=>h,fun i h1 h2=>by omega⟩
def tlN (l:List Nat) (a:Nat):Nat:=ZpV l a l.length 1
def tlA (l:List Nat) (a:Nat):(Nat × Nat × Nat) × Nat :=
 if l.getD a 0=0∧11≤tlN l a then ((18,min (tlN l a) 138-11,7),min (tlN l a) 138)
 else if l.getD a 0=0∧3≤tlN l a then ((17,min (tlN l a) 10-3,3),min (tlN l a) 10)
 else if 0<a∧l.getD a 0=l.getD (a-1) 0∧3≤tlN l a then ((16,min (tlN l a) 6-3,2),min (tlN l a) 6)
 else ((l.getD a 0,0,0),1)
def tlV (x:(Nat × Nat × Nat) × Nat):AV:=.tup [syA x.1,.sc (.int .i64 (x.2:Int))]
set_option maxHeartbeats 1000000 in
theorem ZDB [Tabs Tryz.prog] (nl:Bool) (l:List Nat) (hl:l.length≤1000) (h15:∀ x∈l,x≤15) (a:Nat) (ha:a<l.length):Con Tryz.prog ZiH [.sl nl none (l.map nA),.sc (.int .i64 (a:Int))] (tlV (tlA l a)):=by
 refine Con.of' mix Tryz.func123 rfl Tryz.ntmps123 ZnQ ZnR zB (by simp only [AV.free,AV.free.freeL,Zaa,Bool.and_self]) rfl ?_
 unfold ZiR
 obtain ⟨R,hR⟩:∃ R,R=tlN l a:=⟨_,rfl⟩
 have hf:=ZiC (l:=l) (a:=a) (f:=l.length) (n:=1)
 rw [←tlN,←hR] at hf
 obtain ⟨hf1,hf2,-⟩:=hf
 have hf2:=hf2 zO
 obtain ⟨x,hx⟩:∃ x,x=l.getD a 0:=⟨_,rfl⟩
 have hgx:(l.map nA).getD a .junk = .sc (.int .i64 (x:Int)):=by rw [hx];exact Zct ha
 have hO:tlA l a=if x=0∧11≤R then ((18,min R 138-11,7),min R 138) else if x=0∧3≤R then ((17,min R 10-3,3),min R 10) else if 0<a∧x=l.getD (a-1) 0∧3≤R then ((16,min R 6-3,2),min R 6) else ((x,0,0),1):=by rw [tlA,←hx,←hR]
 rw [hO]
 repeat (first|refine zS ?_|exact zT)
 refine SWp.loop (α:=Nat) (fun n=>mk 90 1 [(0,.sl nl none (l.map nA)),(1,.sc (.int .i64 (a:Int))),(4,.op 4 0 0),(6,int n)] [(4,0,.row false [int 0,int 0,int 0])])
  (fun n=>1≤n∧n≤1000∧a+n≤l.length∧∃ f,l.length≤a+n+f∧R=ZpV l a f n) (fun n=>l.length-n) 1 ⟨Nat.le_refl _,by omega,by omega,l.length,by omega,hR⟩ (Zaj rfl ?_ ?_ ?_) ?_
 ·exact Nat.le_refl _
 iterate 2 (case _=>(first|exact yU iR|refine yR iR ?_))
 rintro n ⟨hn1,hn2,hn3,f,hf3,hRf⟩ -
 obtain ⟨t,ht⟩:∃ t,t=a+n:=⟨_,rfl⟩
 have et:(a:Int)+(n:Int)=(t:Int):=zO
 by_cases c0:t<l.length∧l.getD t 0=x
 ·obtain ⟨c1,c2⟩:=c0
  have d1:decide ((t:Int)<(l.length:Int))=true:=decide_eq_true zO
  have hg:(l.map nA).getD t .junk = .sc (.int .i64 (l.getD t 0:Int)):=Zct zO
  obtain ⟨f,rfl⟩:∃ k,f=k+1:=⟨f-1,by omega⟩
  rw [ZpV,←ht,c2,←hx,if_pos ⟨c1,rfl⟩] at hRf
  rw [c2] at hg
  repeat (first|refine zR (ja5 @et @d1 @hg @hgx @List.length_map.{0,0}) ?_|exact zU (ja5 @et @d1 @hg @hgx @List.length_map.{0,0}))
  refine At.of (n+1) ⟨by omega,by omega,by omega,f,by omega,hRf⟩ zO rfl rfl (Nat.le_refl _) ?_ ?_
  iterate 2 (case _=>(first|exact yU iR|refine yR iR ?_))
 have hRn:R=n:=by
  rw [hRf]
  cases f with
  | zero=>rfl
  | succ f=>rw [ZpV,←ht,←hx,if_neg c0]
 subst hRn
 clear hO hR
 have hla:(a:Int)<(l.length:Int):=Int.ofNat_lt.2 ha
 by_cases c1:t<l.length
 have d1:decide ((t:Int)<(l.length:Int))=true:=decide_eq_true zO
 have hg:(l.map nA).getD t .junk = .sc (.int .i64 (l.getD t 0:Int)):=Zct zO
 obtain ⟨y,hy⟩:∃ y,y=l.getD t 0:=⟨_,rfl⟩
 rw [←hy] at hg
 have d2:decide ((y:Int)=(x:Int))=false:=decide_eq_false (fun h=>c0 ⟨c1,by omega⟩)
 iterate 5 (first|refine zR (ja7 @et @d1 @hg @hgx @d2 @hla @List.length_map.{0,0}) ?_|exact zU (ja7 @et @d1 @hg @hgx @d2 @hla @List.length_map.{0,0}))
 refine SWp.le (Zaj (N:=90) (gc:=1) (l:=[(0,.sl nl none (l.map nA)),(1,.sc (.int .i64 (a:Int))),(4,.op 4 0 0),(6,int R)]) (h:=[(4,0,.row false [int 0,int 0,int 0])]) rfl ?_ ?_ ?_) ?_
 iterate 3 (case _=>(first|exact yU iR|refine yR iR ?_))
 rotate_left
 have d1:decide ((t:Int)<(l.length:Int))=false:=decide_eq_false zO
 iterate 4 (first|refine zR (ja3 @et @d1 @List.length_map.{0,0}) ?_|exact zU (ja3 @et @d1 @List.length_map.{0,0}))
 refine SWp.le (Zaj (N:=90) (gc:=1) (l:=[(0,.sl nl none (l.map nA)),(1,.sc (.int .i64 (a:Int))),(4,.op 4 0 0),(6,int R)]) (h:=[(4,0,.row false [int 0,int 0,int 0])]) rfl ?_ ?_ ?_) ?_
 iterate 3 (case _=>(first|exact yU iR|refine yR iR ?_))
 all_goals
  clear d1
  have m1:(if (138:Int)<(R:Int) then 138 else (R:Int))=((min R 138:Nat):Int):=by split <;> omega
  have m2:(if (10:Int)<(R:Int) then 10 else (R:Int))=((min R 10:Nat):Int):=by split <;> omega
  have m3:(if (6:Int)<(R:Int) then 6 else (R:Int))=((min R 6:Nat):Int):=by split <;> omega
  by_cases x0:x=0
  ·have e1:decide ((x:Int)=0)=true:=decide_eq_true zO
   by_cases r1:11≤R
   ·have e2:decide ((11:Int)≤(R:Int))=true:=decide_eq_true zO
    obtain ⟨u,hu⟩:∃ u,u=min R 138:=⟨_,rfl⟩
    rw [←hu] at m1
    have eu:(u:Int)-11=((u-11:Nat):Int):=zO
    rw [if_pos (show x=0∧11≤R from ⟨x0,r1⟩),←hu]
    repeat (first|refine zR (ja8 @hgx @e1 @e2 @m1 @eu @tlV.eq_1 @syA.eq_1 (ja2 iR @List.length_map.{0,0})) ?_|exact zU (ja8 @hgx @e1 @e2 @m1 @eu @tlV.eq_1 @syA.eq_1 (ja2 iR @List.length_map.{0,0})))
   have e2:decide ((11:Int)≤(R:Int))=false:=decide_eq_false zO
   rw [if_neg (show ¬(x=0∧11≤R) from fun h=>r1 h.2)]
   by_cases r2:3≤R
   ·have e3:decide ((3:Int)≤(R:Int))=true:=decide_eq_true zO
    rw [show min R 10=R by omega] at m2
    have eu:(R:Int)-3=((R-3:Nat):Int):=zO
    rw [if_pos (show x=0∧3≤R from ⟨x0,r2⟩)]
    repeat (first|refine zR (ja8 @hgx @e1 @e2 @e3 @m2 @eu @tlV.eq_1 (ja3 @syA.eq_1 iR @List.length_map.{0,0})) ?_|exact zU (ja8 @hgx @e1 @e2 @e3 @m2 @eu @tlV.eq_1 (ja3 @syA.eq_1 iR @List.length_map.{0,0})))
   have e3:decide ((3:Int)≤(R:Int))=false:=decide_eq_false zO
   rw [if_neg (show ¬(x=0∧3≤R) from fun h=>r2 h.2),if_neg (show ¬(0<a∧x=l.getD (a-1) 0∧3≤R) from fun h=>r2 h.2.2)]
   by_cases a0:0<a
   ·have e4:decide ((0:Int)<(a:Int))=true:=decide_eq_true zO
    obtain ⟨w,hw⟩:∃ w,w=a-1:=⟨_,rfl⟩
    have ew:(a:Int)-1=(w:Int):=zO
    have hgw:(l.map nA).getD w .junk = .sc (.int .i64 (l.getD w 0:Int)):=Zct zO
    obtain ⟨v,hv⟩:∃ v,v=l.getD w 0:=⟨_,rfl⟩
    rw [←hv] at hgw
    by_cases v0:x=v
    ·have e5:decide ((x:Int)=(v:Int))=true:=decide_eq_true zO
     repeat (first|refine zR (ja8 @hgx @hgw @e1 @e2 @e3 @e4 @e5 (ja5 @ew @tlV.eq_1 @syA.eq_1 iR @List.length_map.{0,0})) ?_|exact zU (ja8 @hgx @hgw @e1 @e2 @e3 @e4 @e5 (ja5 @ew @tlV.eq_1 @syA.eq_1 iR @List.length_map.{0,0})))
    ·have e5:decide ((x:Int)=(v:Int))=false:=decide_eq_false zO
     repeat (first|refine zR (ja8 @hgx @hgw @e1 @e2 @e3 @e4 @e5 (ja5 @ew @tlV.eq_1 @syA.eq_1 iR @List.length_map.{0,0})) ?_|exact zU (ja8 @hgx @hgw @e1 @e2 @e3 @e4 @e5 (ja5 @ew @tlV.eq_1 @syA.eq_1 iR @List.length_map.{0,0})))
   ·have e4:decide ((0:Int)<(a:Int))=false:=decide_eq_false zO
    repeat (first|refine zR (ja8 @hgx @e1 @e2 @e3 @e4 @tlV.eq_1 @syA.eq_1 (ja2 iR @List.length_map.{0,0})) ?_|exact zU (ja8 @hgx @e1 @e2 @e3 @e4 @tlV.eq_1 @syA.eq_1 (ja2 iR @List.length_map.{0,0})))
  have e1:decide ((x:Int)=0)=false:=decide_eq_false zO
  rw [if_neg (show ¬(x=0∧11≤R) from fun h=>x0 h.1),if_neg (show ¬(x=0∧3≤R) from fun h=>x0 h.1)]
  by_cases a0:0<a
  ·have e4:decide ((0:Int)<(a:Int))=true:=decide_eq_true zO
   obtain ⟨w,hw⟩:∃ w,w=a-1:=⟨_,rfl⟩
   have ew:(a:Int)-1=(w:Int):=zO
   have hgw:(l.map nA).getD w .junk = .sc (.int .i64 (l.getD w 0:Int)):=Zct zO
   obtain ⟨v,hv⟩:∃ v,v=l.getD w 0:=⟨_,rfl⟩
   rw [←hv] at hgw
   rw [←hw,←hv]
   by_cases v0:x=v
   ·have e5:decide ((x:Int)=(v:Int))=true:=decide_eq_true zO
    by_cases r2:3≤R
    ·have e3:decide ((3:Int)≤(R:Int))=true:=decide_eq_true zO
     obtain ⟨u,hu⟩:∃ u,u=min R 6:=⟨_,rfl⟩
     rw [←hu] at m3
     have eu:(u:Int)-3=((u-3:Nat):Int):=zO
     rw [if_pos (show 0<a∧x=v∧3≤R from ⟨a0,v0,r2⟩),←hu]
     repeat (first|refine zR (ja8 @hgx @hgw @e1 @e3 @e4 @e5 @m3 (ja6 @eu @ew @tlV.eq_1 @syA.eq_1 iR @List.length_map.{0,0})) ?_|exact zU (ja8 @hgx @hgw @e1 @e3 @e4 @e5 @m3 (ja6 @eu @ew @tlV.eq_1 @syA.eq_1 iR @List.length_map.{0,0})))
    ·have e3:decide ((3:Int)≤(R:Int))=false:=decide_eq_false zO
     rw [if_neg (show ¬(0<a∧x=v∧3≤R) from fun h=>r2 h.2.2)]
     repeat (first|refine zR (ja8 @hgx @hgw @e1 @e3 @e4 @e5 @ew (ja4 @tlV.eq_1 @syA.eq_1 iR @List.length_map.{0,0})) ?_|exact zU (ja8 @hgx @hgw @e1 @e3 @e4 @e5 @ew (ja4 @tlV.eq_1 @syA.eq_1 iR @List.length_map.{0,0})))
   ·have e5:decide ((x:Int)=(v:Int))=false:=decide_eq_false zO
    rw [if_neg (show ¬(0<a∧x=v∧3≤R) from fun h=>v0 h.2.1)]
    repeat (first|refine zR (ja8 @hgx @hgw @e1 @e4 @e5 @ew @tlV.eq_1 (ja3 @syA.eq_1 iR @List.length_map.{0,0})) ?_|exact zU (ja8 @hgx @hgw @e1 @e4 @e5 @ew @tlV.eq_1 (ja3 @syA.eq_1 iR @List.length_map.{0,0})))
  ·have e4:decide ((0:Int)<(a:Int))=false:=decide_eq_false zO
   rw [if_neg (show ¬(0<a∧x=l.getD (a-1) 0∧3≤R) from fun h=>a0 h.1)]
   repeat (first|refine zR (ja7 @hgx @e1 @e4 @tlV.eq_1 @syA.eq_1 iR @List.length_map.{0,0}) ?_|exact zU (ja7 @hgx @e1 @e4 @tlV.eq_1 @syA.eq_1 iR @List.length_map.{0,0}))
structure TlOk (s:Nat × Nat × Nat):Prop where
 num:s.1<19
 more:s.2.1≤127
 bits:s.2.2≤7
theorem Zv6 {l:List Nat} (h15:∀ x∈l,x≤15) {a:Nat} (ha:a<l.length):TlOk (tlA l a).1∧1≤(tlA l a).2∧a+(tlA l a).2≤l.length:=by
 obtain ⟨h1,h2,-⟩:=ZiC (l:=l) (a:=a) (f:=l.length) (n:=1)
 rw [←tlN] at h1 h2
 have h2:=h2 zO
 have hx:=ZjE h15 ha
 unfold tlA
 split
 ·exact ⟨⟨by simp only;omega,by simp only;omega,by simp only;omega⟩,by simp only;omega,by simp only;omega⟩
 split
 ·exact ⟨⟨by simp only;omega,by simp only;omega,by simp only;omega⟩,by simp only;omega,by simp only;omega⟩
 split
 ·exact ⟨⟨by simp only;omega,by simp only;omega,by simp only;omega⟩,by simp only;omega,by simp only;omega⟩
 ·exact ⟨⟨by simp only;omega,by simp only;omega,by simp only;omega⟩,by simp only;omega,by simp only;omega⟩
def Zmr (l:List Nat):Nat→Nat→List (Nat × Nat × Nat)→List (Nat × Nat × Nat)
 | 0,_,T=>T
 | f+1,a,T=>if a<l.length then Zmr l f (a+(tlA l a).2) (T++[(tlA l a).1]) else T
def tls (l:List Nat):List (Nat × Nat × Nat):=Zmr l l.length 0 []
theorem ZA9 {l:List Nat} (h15:∀ x∈l,x≤15):∀ {f a:Nat} {T:List (Nat × Nat × Nat)},(∀ s∈T,TlOk s)→T.length≤a→a≤l.length→(∀ s∈Zmr l f a T,TlOk s)∧(Zmr l f a T).length≤l.length
 | 0,a,T,h,h1,h2=>⟨h,by rw [Zmr];omega⟩
 | f+1,a,T,h,h1,h2=>by
  rw [Zmr]
  split
  ·rename_i c
   obtain ⟨o1,o2,o3⟩:=Zv6 h15 c
   refine ZA9 h15 (fun s hs=>?_) (by rw [List.length_append,List.length_singleton];omega) zO
   rcases List.mem_append.1 hs with hs | hs
   ·exact h s hs
   ·rw [List.mem_singleton] at hs;rw [hs];exact o1
  ·exact ⟨h,by omega⟩
theorem Zv7 {l:List Nat} (h15:∀ x∈l,x≤15):(∀ s∈tls l,TlOk s)∧(tls l).length≤l.length:=ZA9 h15 zB zB (Nat.zero_le _)
def syC (l:List (Nat × Nat × Nat)):List AV:=l.flatMap fun s=>[.sc (.int .i64 (s.1:Int)),.sc (.int .i64 (s.2.1:Int)),.sc (.int .i64 (s.2.2:Int))]
theorem Zyi {a b:List (Nat × Nat × Nat)}:syC (a++b)=syC a++syC b:=by simp [syC]
theorem Zm8:∀ {l:List (Nat × Nat × Nat)},(syC l).length=l.length*3
 | []=>rfl
 | p::l=>by rw [show syC (p::l)=[.sc (.int .i64 (p.1:Int)),.sc (.int .i64 (p.2.1:Int)),.sc (.int .i64 (p.2.2:Int))]++syC l from rfl,List.length_append,Zm8];simp;omega
theorem Zyj {l:List (Nat × Nat × Nat)}:chunks (some 3) l.length (syC l)=l.map syA:=by
 have h:=Zic (es:=some 3) (l.map syA) (fun x hx=>by
  obtain ⟨p,_,rfl⟩:=List.mem_map.1 hx
  exact ⟨_,rfl,rfl⟩)
 rw [List.length_map,List.flatMap_map] at h
 exact h
theorem ZrC {l:List (Nat × Nat × Nat)}:AV.free.freeL (l.map syA)=true:=ZbB.2 fun x hx=>by
 obtain ⟨p,_,rfl⟩:=List.mem_map.1 hx;rfl
set_option maxHeartbeats 1000000 in
theorem ZBa [Tabs Tryz.prog] (nl:Bool) (l:List Nat) (hl:l.length≤1000) (h15:∀ x∈l,x≤15):Con Tryz.prog ZhC [.sl nl none (l.map nA)] (.sl (nl0 (tls l).length) (some 3) ((tls l).map syA)):=by
 refine Con.of' mix Tryz.func82 rfl Tryz.ntmps82 ZmR ZmS zB (by simp only [AV.free,AV.free.freeL,Zaa,Bool.and_self]) (by simp only [AV.free];exact ZrC) ?_
 unfold ZhW
 obtain ⟨R,hR⟩:∃ R,R=tls l:=⟨_,rfl⟩
 rw [←hR]
 iterate 4 (first|refine zS ?_|exact zT)
 refine SWp.adopt 3 (some 3) yT ?_
 repeat (first|refine zS ?_|exact zT)
 refine SWp.loop (α:=Nat × List (Nat × Nat × Nat) × Nat × Nat) (fun x=>mk 25 x.2.2.2 [(0,.sl nl none (l.map nA)),(3,.own 3 x.2.2.1 (some 3) 0 x.2.1.length),(4,int x.1)] [(3,x.2.2.1,.row (nl0 x.2.1.length) (syC x.2.1))])
  (fun x=>x.1≤l.length∧x.2.1.length≤x.1∧∃ f,l.length≤x.1+f∧R=Zmr l f x.1 x.2.1) (fun x=>l.length-x.1) (0,[],0,1) ⟨Nat.zero_le _,Nat.zero_le _,l.length,by simp,hR⟩ (Zaj rfl ?_ ?_ ?_) ?_
 ·exact Nat.le_refl _
 ·(first|exact yT|refine yS ?_)
 ·(first|exact yU @Zbh|refine yR @Zbh ?_)
  try rfl
 rintro ⟨a,T,g,gc⟩ ⟨ha,hT,f,hf,hRf⟩ -
 simp only at ha hT hf hRf
 by_cases c:a<l.length
 ·have d:decide ((a:Int)<(l.length:Int))=true:=decide_eq_true zO
  obtain ⟨f,rfl⟩:∃ k,f=k+1:=⟨f-1,by omega⟩
  rw [Zmr,if_pos c] at hRf
  obtain ⟨o1,o2,o3⟩:=Zv6 h15 c
  have tc:=ZDB nl l hl h15 a c
  obtain ⟨r,hr⟩:∃ r,r=tlA l a:=⟨_,rfl⟩
  rw [←hr] at o1 o2 o3 hRf tc
  obtain ⟨⟨u,v,w⟩,n⟩:=r
  simp only [tlV,syA] at o2 o3 hRf tc
  have hfl:List.flatMap (fun x=>(Zas x).getD []) [AV.agg [.sc (.int .i64 (u:Int)),.sc (.int .i64 (v:Int)),.sc (.int .i64 (w:Int))]]=[.sc (.int .i64 (u:Int)),.sc (.int .i64 (v:Int)),.sc (.int .i64 (w:Int))]:=rfl
  have hcl:syC T++[.sc (.int .i64 (u:Int)),.sc (.int .i64 (v:Int)),.sc (.int .i64 (w:Int))]=syC (T++[(u,v,w)]):=by rw [Zyi];rfl
  have hsl:(syC T).length=T.length*3:=Zm8
  have hnl:nl0 (T.length+1)=false:=Zca zO
  have hTl:(T++[(u,v,w)]).length=T.length+1:=by simp
  repeat (first|refine zR (ja2 @d @List.length_map.{0,0}) ?_|exact zU (ja2 @d @List.length_map.{0,0}))
  refine Zaz _ (.inl ⟨by simp only [AV.free,AV.free.freeL,Zaa,Bool.and_self],tc⟩) ?_
  repeat (first|refine zS ?_|exact zT)
  refine ⟨⟨_,rfl,rfl⟩,⟨fun w hw=>⟨_,List.mem_singleton.1 hw⟩,hsl.symm,by omega,by omega⟩,?_⟩
  repeat (first|refine zR (ja2 @hfl @hcl) ?_|exact zU (ja2 @hfl @hcl))
  refine At.of (a+n,T++[(u,v,w)],gc+1,gc+2) ⟨by simp only;omega,by simp only;rw [hTl];omega,f,by simp only;omega,hRf⟩ (by simp only;omega) rfl rfl (Nat.le_refl _) ?_ ?_
  iterate 2 (case _=>(first|exact yU (ja2 @hTl @hnl)|refine yR (ja2 @hTl @hnl) ?_))
 ·have d:decide ((a:Int)<(l.length:Int))=false:=decide_eq_false zO
  have hRT:R=T:=by
   rw [hRf]
   cases f with
   | zero=>rfl
   | succ f=>rw [Zmr,if_neg c]
  have hcn:chunks (some 3) T.length (syC T)=T.map syA:=Zyj
  have hsl:(syC T).length=T.length*3:=Zm8
  rw [hRT]
  repeat (first|refine zR (ja4 @d @List.length_map.{0,0} @hcn @hsl) ?_|exact zU (ja4 @d @List.length_map.{0,0} @hcn @hsl))
def ctN (n:Nat) (S:List Nat):List Nat:=(List.range n).map fun i=>S.count i
theorem Zbw {n:Nat} {S:List Nat}:(ctN n S).length=n:=by simp [ctN]
theorem Zli {n u:Nat} {S:List Nat} (h:u<n):(ctN n S).getD u 0=S.count u:=by simp [ctN,List.getD,h]
theorem Zmg {n u:Nat} {S:List Nat} (h:u<n):(ctN n S).set u (S.count u+1)=ctN n (S++[u]):=by
 rw [ctN,ZvW (f:=fun i=>S.count i) h,ctN]
 refine List.map_congr_left fun i _=>?_
 rw [List.count_append,List.count_singleton]
 by_cases c:i=u
 ·subst c;simp
 ·simp [c,Ne.symm c]
theorem ZBb {n q:Nat} {S:List Nat} (hn:n≤300) (hS:S.length≤100000) (h1:1≤q) (h2:q≤15) (h3:n≤2^q):CtOk (ctN n S) q:=by
 refine ⟨by rw [Zbw];exact hn,fun x hx=>?_,h1,h2,by rw [Zbw];exact h3⟩
 obtain ⟨i,_,rfl⟩:=List.mem_map.1 hx
 exact Nat.le_trans List.count_le_length hS
theorem ZF4 {n:Nat}:ctN n []=List.replicate n 0:=by
 rw [ctN]
 refine List.ext_getElem zB fun i h1 h2=>by simp
theorem Zpg {n:Nat}:(List.replicate n [AV.sc (.int .i64 0)]).flatten=(ctN n []).map nA:=by rw [ZsM,ZF4]
def ctT (T:List (Nat × Nat × Nat)):List Nat:=ctN 19 (T.map (·.1))
theorem Zv8 {T:List (Nat × Nat × Nat)} (h:T.length≤1000):CtOk (ctT T) 7:=ZBb zO (by rw [List.length_map];omega) zO zO zO
theorem ZBc {l:List (Nat × Nat × Nat)} {i:Nat} (h:i<l.length):(l.map syA).getD i .junk=syA (l.getD i (0,0,0)):=by simp [List.getD,h]
set_option maxHeartbeats 1000000 in
theorem Ztl [Tabs Tryz.prog] (nl:Bool) (T:List (Nat × Nat × Nat)) (hT:T.length≤1000) (hok:∀ s∈T,TlOk s):Con Tryz.prog Zfs [.sl nl (some 3) (T.map syA)] (cdA false (Zc5 (ctT T) 7)):=by
 refine Con.of' mix Tryz.func83 rfl Tryz.ntmps83 Zku Zkv zB (by simp only [AV.free,AV.free.freeL,ZrC,Bool.and_self]) Zrx ?_
 unfold ZfK
 have bc:=Zm4 false (ctT T) 7 (Zv8 hT)
 unfold cdA at bc
 obtain ⟨F,hF⟩:∃ F,F=Zc5 (ctT T) 7:=⟨_,rfl⟩
 rw [←hF] at bc ⊢
 have hz:=Zpg (n:=19)
 repeat (first|refine xR (ja2 @hz @List.length_map.{0,0}) ?_|exact xU (ja2 @hz @List.length_map.{0,0}))
 obtain ⟨A,hA⟩:∃ A,A=T.map syA:=⟨_,rfl⟩
 have hAl:A.length=T.length:=by rw [hA,List.length_map]
 rw [←hA]
 refine SWp.loop (α:=Nat × List Nat × Nat) (fun x=>mk 23 x.2.2 [(2,.op 2 0 0),(3,.own 6 1 none 0 19),(7,.sl nl (some 3) A),(8,int T.length),(9,int x.1)] [(2,0,.row false [.sc (.slice none 0 0),.sc (.slice none 0 0)]),(6,1,.row false (x.2.1.map nA))])
  (fun x=>x.1≤T.length∧x.2.1=ctN 19 ((T.take x.1).map (·.1))∧x.2.2=2+x.1) (fun x=>T.length-x.1) (0,ctN 19 [],2) ⟨Nat.zero_le _,by simp,by simp⟩ (Zaj rfl ?_ ?_ ?_) ?_
 ·exact Nat.le_refl _
 iterate 2 (case _=>(first|exact vT|refine vS ?_))
 rintro ⟨k,c,gc⟩ ⟨hk,hc,hgc⟩ -
 simp only at hk hc hgc
 have hcl:c.length=19:=by rw [hc,Zbw]
 by_cases ck:k<T.length
 ·have dk:decide ((k:Int)<(T.length:Int))=true:=decide_eq_true zO
  obtain ⟨s,hs⟩:∃ s,s=T.getD k (0,0,0):=⟨_,rfl⟩
  have hsT:s∈T:=by
   have:T.getD k (0,0,0)=T[k]:=by simp [List.getD,ck]
   rw [hs,this];exact List.getElem_mem _
  have hg:A.getD k .junk = .agg [.sc (.int .i64 (s.1:Int)),.sc (.int .i64 (s.2.1:Int)),.sc (.int .i64 (s.2.2:Int))]:=by rw [hA,ZBc ck,←hs];rfl
  have htk:(T.take (k+1)).map (·.1)=(T.take k).map (·.1)++[s.1]:=by rw [ZgS (d:=(0,0,0)) ck,←hs,List.map_append];rfl
  have hu:=(hok s hsT).num
  have hsn:=Zmg (S:=(T.take k).map (·.1)) hu
  rw [←htk,←hc] at hsn
  have hcv:((T.take k).map (·.1)).count s.1≤1000:=Nat.le_trans List.count_le_length (by rw [List.length_map,List.length_take];omega)
  obtain ⟨u,hue⟩:∃ u,u=s.1:=⟨_,rfl⟩
  obtain ⟨v,hv⟩:∃ v,v=((T.take k).map (·.1)).count s.1:=⟨_,rfl⟩
  have hgv:(c.map nA).getD u .junk = .sc (.int .i64 (v:Int)):=by rw [Zct zO,hc,Zli zO,hv,hue]
  rw [←hv,←hue] at hsn
  rw [←hv] at hcv
  rw [←hue] at hg hu
  obtain ⟨v1,hv1⟩:∃ v1,v1=v+1:=⟨_,rfl⟩
  rw [←hv1] at hsn
  have hev:(v:Int)+1=(v1:Int):=zO
  have hsp:=ZbJ (l:=c) (k:=u) (x:=v1) zO
  rw [hsn] at hsp
  obtain ⟨c2,hc2⟩:∃ c2,c2=ctN 19 ((T.take (k+1)).map (·.1)):=⟨_,rfl⟩
  rw [←hc2,←ZgF,←Zhp] at hsp
  repeat (first|refine xR (ja8 @dk @hAl @hg @hgv @hev @hsp @hcl @List.length_map.{0,0}) ?_|exact xU (ja8 @dk @hAl @hg @hgv @hev @hsp @hcl @List.length_map.{0,0}))
  refine At.of (k+1,c2,gc+1) ⟨by simp only;omega,hc2,by simp only;omega⟩ (by simp only;omega) rfl rfl (Nat.le_refl _) ?_ ?_
  iterate 2 (case _=>(first|exact vU @hsp|refine vR @hsp ?_))
 ·have dk:decide ((k:Int)<(T.length:Int))=false:=decide_eq_false zO
  rw [List.take_of_length_le zO] at hc
  obtain rfl:c=ctT T:=hc
  repeat (first|refine xR (ja2 @dk @hAl) ?_|exact xU (ja2 @dk @hAl))
  refine Zfj 6 1 (nl:=false) (cells:=(ctT T).map nA) [.sl false none ((ctT T).map nA),int ((7:Nat):Int)] _ vT (vU @Zaa) ?_ (vU @Zaa) bc ?_
  ·(first|exact vU (ja3 fR iR @hcl)|refine vR (ja3 fR iR @hcl) ?_)
  repeat (first|refine xR (ja3 fR iR @cdA.eq_1) ?_|exact xU (ja3 fR iR @cdA.eq_1))
def Zph (P:List (Nat × Nat)):List Nat:=P.map fun p=>(Ziy p).1
def Zyk (P:List (Nat × Nat)):List Nat:=(P.filter fun p=>decide (0<p.2)).map fun p=>(Znx p).1
def Zlj (P:List (Nat × Nat)):List Nat:=ctN 286 (Zph P++[256]++if P.length=0 then [0] else [])
def Zu2 (P:List (Nat × Nat)):List Nat:=ctN 30 (Zyk P)
theorem ZiD {P:List (Nat × Nat)}:(Zph P).length=P.length:=by simp [Zph]
theorem Zpi {P:List (Nat × Nat)}:(Zyk P).length≤P.length:=by rw [Zyk,List.length_map];exact List.length_filter_le _ _
theorem Zmh {P:List (Nat × Nat)} (h:P.length≤20000):CtOk (Zlj P) 15:=ZBb zO (by rw [List.length_append,List.length_append,ZiD];split <;> simp <;> omega) zO zO zO
theorem Zob {P:List (Nat × Nat)} (h:P.length≤20000):CtOk (Zu2 P) 15:=ZBb zO (Nat.le_trans Zpi zO) zO zO zO
theorem ZBd {P:List (Nat × Nat)} {k:Nat} (h:k<P.length):Zph (P.take (k+1))=Zph (P.take k)++[(Ziy (P.getD k (0,0))).1]:=by rw [ZgS (d:=(0,0)) h,Zph,List.map_append];rfl
theorem ZBe {P:List (Nat × Nat)} {k:Nat} (h:k<P.length):Zyk (P.take (k+1))=Zyk (P.take k)++if 0<(P.getD k (0,0)).2 then [(Znx (P.getD k (0,0))).1] else []:=by
 rw [ZgS (d:=(0,0)) h,Zyk,List.filter_append,List.map_append]
 congr 1
 by_cases c:0<(P.getD k (0,0)).2
 ·rw [if_pos c,List.filter_cons_of_pos (by simpa using c)];rfl
 ·rw [if_neg c,List.filter_cons_of_neg (by simpa using c)];rfl
def BH1:=ja2 fR iR
def BH3:=ja3 fR iR @Zqx.eq_1
set_option maxHeartbeats 2000000 in
theorem Zu3 [Tabs Tryz.prog] (nl:Bool) (P:List (Nat × Nat)) (hP:P.length≤20000) (hok:∀ p∈P,Zlg p):Con Tryz.prog Zgb [.sl nl (some 2) (P.map pcA)] (Zqx (Zc5 (Zlj P) 15) (Zc5 (Zu2 P) 15)):=by
 refine Con.of' mix Tryz.func40 rfl Tryz.ntmps40 Zk5 Zk6 zB (by simp only [AV.free,AV.free.freeL,Zeo,Bool.and_self]) Zo7 ?_
 unfold ZgC
 have bl:=Zm4 false (Zlj P) 15 (Zmh hP)
 have bd:=Zm4 false (Zu2 P) 15 (Zob hP)
 unfold cdA at bl bd
 obtain ⟨F,hF⟩:∃ F,F=Zc5 (Zlj P) 15:=⟨_,rfl⟩
 obtain ⟨D,hD⟩:∃ D,D=Zc5 (Zu2 P) 15:=⟨_,rfl⟩
 rw [←hF] at bl ⊢
 rw [←hD] at bd ⊢
 have hz:=Zpg (n:=286)
 have hz2:=Zpg (n:=30)
 obtain ⟨A,hA⟩:∃ A,A=P.map pcA:=⟨_,rfl⟩
 have hAl:A.length=P.length:=by rw [hA,List.length_map]
 have hrA:∀ ρ,ren.renL ρ A=A:=fun ρ=>by rw [hA];exact Zbm ρ _ Zeo
 have hgA:∀ k,k<P.length→A.getD k .junk = .agg [.sc (.int .u16 ((P.getD k (0,0)).1:Int)),.sc (.int .u16 ((P.getD k (0,0)).2:Int))]:=fun k hk=>by rw [hA,ZA4 hk];rfl
 rw [←hA]
 iterate 3 (first|refine xS ?_|exact xT)
 refine SWp.reg2 ?_ ?_
 repeat (first|refine xR (ja4 @hz @hz2 @hAl @List.length_map.{0,0}) ?_|exact xU (ja4 @hz @hz2 @hAl @List.length_map.{0,0}))
 refine SWp.renew 7 1 (o:=.row false ((ctN 286 []).map nA)) vT ?_
 refine SWp.renew 8 2 (o:=.row false ((ctN 30 []).map nA)) (vU (ja4 @Zbb @Zba @ZoO iR)) ?_
 refine SWp.le (Zaj (N:=52) (gc:=5) (l:=[(0,.sl nl (some 2) A),(2,.op 2 0 0),(3,.own 7 3 none 0 286),(4,.own 8 4 none 0 30),(9,.sl nl (some 2) A),(10,int P.length),(11,int 0)]) (h:=[(2,0,.row false [.sc (.slice none 0 0),.sc (.slice none 0 0),.sc (.slice none 0 0),.sc (.slice none 0 0)]),(7,3,.row false ((ctN 286 []).map nA)),(8,4,.row false ((ctN 30 []).map nA))]) rfl ?_ ?_ ?_) ?_
 iterate 3 (case _=>(first|exact vU (ja4 @Zba iR @hrA @Zbb)|refine vR (ja4 @Zba iR @hrA @Zbb) ?_))
 rotate_left
 repeat (first|refine xR (ja4 @hz @hz2 @hAl @List.length_map.{0,0}) ?_|exact xU (ja4 @hz @hz2 @hAl @List.length_map.{0,0}))
 refine SWp.renew 7 2 (o:=.row false ((ctN 286 []).map nA)) vT ?_
 refine SWp.renew 8 1 (o:=.row false ((ctN 30 []).map nA)) (vU (ja4 @Zbb @Zba @ZoO iR)) ?_
 refine SWp.le (Zaj (N:=52) (gc:=5) (l:=[(0,.sl nl (some 2) A),(2,.op 2 0 0),(3,.own 7 3 none 0 286),(4,.own 8 4 none 0 30),(9,.sl nl (some 2) A),(10,int P.length),(11,int 0)]) (h:=[(2,0,.row false [.sc (.slice none 0 0),.sc (.slice none 0 0),.sc (.slice none 0 0),.sc (.slice none 0 0)]),(7,3,.row false ((ctN 286 []).map nA)),(8,4,.row false ((ctN 30 []).map nA))]) rfl ?_ ?_ ?_) ?_
 iterate 3 (case _=>(first|exact vU (ja4 @Zba iR @hrA @Zbb)|refine vR (ja4 @Zba iR @hrA @Zbb) ?_))
 all_goals
  refine SWp.loop (α:=Nat × List Nat × List Nat × Nat) (fun x=>mk 52 x.2.2.2 [(0,.sl nl (some 2) A),(2,.op 2 0 0),(3,.own 7 3 none 0 286),(4,.own 8 4 none 0 30),(9,.sl nl (some 2) A),(10,int P.length),(11,int x.1)] [(2,0,.row false [.sc (.slice none 0 0),.sc (.slice none 0 0),.sc (.slice none 0 0),.sc (.slice none 0 0)]),(7,3,.row false (x.2.1.map nA)),(8,4,.row false (x.2.2.1.map nA))])
   (fun x=>x.1≤P.length∧x.2.1=ctN 286 (Zph (P.take x.1))∧x.2.2.1=ctN 30 (Zyk (P.take x.1))∧x.2.2.2=5+x.1) (fun x=>P.length-x.1) (0,ctN 286 [],ctN 30 [],5) ⟨Nat.zero_le _,by simp [Zph],by simp [Zyk],by simp⟩ (Zaj rfl ?_ ?_ ?_) ?_
  ·exact Nat.le_refl _
  iterate 2 (case _=>(first|exact vT|refine vS ?_))
  rintro ⟨k,cl,cd,gc⟩ ⟨hk,hcl,hcd,hgc⟩ -
  simp only at hk hcl hcd hgc
  have hll:cl.length=286:=by rw [hcl,Zbw]
  have hdl:cd.length=30:=by rw [hcd,Zbw]
  by_cases ck:k<P.length
  ·have dk:decide ((k:Int)<(P.length:Int))=true:=decide_eq_true zO
   have hg:=hgA k ck
   have hls:=ZBd ck
   have hds:=ZBe ck
   obtain ⟨p,hp⟩:∃ p,p=P.getD k (0,0):=⟨_,rfl⟩
   rw [←hp] at hg hls hds
   have hpP:p∈P:=by
    have:P.getD k (0,0)=P[k]:=by simp [List.getD,ck]
    rw [hp,this];exact List.getElem_mem _
   have ho:=hok p hpP
   have lc:=Ztf p ho
   have ir:=ZuX p
   rw [pcA] at lc ir
   have hu:=(Zpd (l:=List.replicate 286 0) zB ho).num
   rw [List.length_replicate] at hu
   have hsn:=Zmg (S:=Zph (P.take k)) hu
   rw [←hls,←hcl] at hsn
   have hcv:(Zph (P.take k)).count (Ziy p).1≤20000:=Nat.le_trans List.count_le_length (by rw [ZiD,List.length_take];omega)
   have hge:cl.getD (Ziy p).1 0=(Zph (P.take k)).count (Ziy p).1:=by rw [hcl,Zli hu]
   obtain ⟨⟨u,u2,u3⟩,hue⟩:∃ s,s=Ziy p:=⟨_,rfl⟩
   rw [←hue] at hu hsn hcv hge lc
   simp only [syA] at hu hsn hcv hge lc
   obtain ⟨v,hv⟩:∃ v,v=(Zph (P.take k)).count u:=⟨_,rfl⟩
   rw [←hv] at hsn hcv hge
   have hgv:(cl.map nA).getD u .junk = .sc (.int .i64 (v:Int)):=by rw [Zct zO,hge]
   obtain ⟨v1,hv1⟩:∃ v1,v1=v+1:=⟨_,rfl⟩
   rw [←hv1] at hsn
   have hev:(v:Int)+1=(v1:Int):=zO
   have hsp:=ZbJ (l:=cl) (k:=u) (x:=v1) zO
   rw [hsn,←ZgF,←Zhp] at hsp
   obtain ⟨cl2,hcl2⟩:∃ c,c=ctN 286 (Zph (P.take (k+1))):=⟨_,rfl⟩
   rw [←hcl2] at hsp
   by_cases c0:0<p.2
   ·have e0:decide (0<p.2)=true:=decide_eq_true c0
    rw [e0] at ir
    rw [if_pos c0] at hds
    have dc:=ZqA p c0 (by have:=ho;simp only [Zlg] at this;omega)
    rw [pcA] at dc
    have hx:=(Ztj (d:=List.replicate 30 0) zB ho c0).num
    rw [List.length_replicate] at hx
    have hdn:=Zmg (S:=Zyk (P.take k)) hx
    rw [←hds,←hcd] at hdn
    have hdv:(Zyk (P.take k)).count (Znx p).1≤20000:=Nat.le_trans List.count_le_length (Nat.le_trans Zpi (by rw [List.length_take];omega))
    have hde:cd.getD (Znx p).1 0=(Zyk (P.take k)).count (Znx p).1:=by rw [hcd,Zli hx]
    obtain ⟨⟨x,x2,x3⟩,hxe⟩:∃ s,s=Znx p:=⟨_,rfl⟩
    rw [←hxe] at hx hdn hdv hde dc
    simp only [syA] at hx hdn hdv hde dc
    obtain ⟨w,hw⟩:∃ v,v=(Zyk (P.take k)).count x:=⟨_,rfl⟩
    rw [←hw] at hdn hdv hde
    have hgw:(cd.map nA).getD x .junk = .sc (.int .i64 (w:Int)):=by rw [Zct zO,hde]
    obtain ⟨w1,hw1⟩:∃ v1,v1=w+1:=⟨_,rfl⟩
    rw [←hw1] at hdn
    have ew:(w:Int)+1=(w1:Int):=zO
    have hsq:=ZbJ (l:=cd) (k:=x) (x:=w1) zO
    rw [hdn,←ZgF,←Zhp] at hsq
    obtain ⟨cd2,hcd2⟩:∃ c,c=ctN 30 (Zyk (P.take (k+1))):=⟨_,rfl⟩
    rw [←hcd2] at hsq
    repeat (first|refine xR (ja3 @dk @hAl @hg) ?_|exact xU (ja3 @dk @hAl @hg))
    refine Zaz _ (.inl ⟨rfl,lc⟩) ?_
    repeat (first|refine xR (ja5 @hgv @hev @hsp @hll @List.length_map.{0,0}) ?_|exact xU (ja5 @hgv @hev @hsp @hll @List.length_map.{0,0}))
    refine Zaz _ (.inl ⟨rfl,ir⟩) ?_
    repeat (first|refine xS ?_|exact xT)
    refine Zaz _ (.inl ⟨rfl,dc⟩) ?_
    repeat (first|refine xR (ja5 @hgw @ew @hsq @hdl @List.length_map.{0,0}) ?_|exact xU (ja5 @hgw @ew @hsq @hdl @List.length_map.{0,0}))
    refine At.of (k+1,cl2,cd2,gc+1) ⟨by simp only;omega,hcl2,hcd2,by simp only;omega⟩ (by simp only;omega) rfl rfl (Nat.le_refl _) ?_ ?_
    iterate 2 (case _=>(first|exact vU (ja2 @hsp @hsq)|refine vR (ja2 @hsp @hsq) ?_))
   ·have e0:decide (0<p.2)=false:=decide_eq_false c0
    rw [e0] at ir
    rw [if_neg c0,List.append_nil] at hds
    rw [←hds] at hcd
    repeat (first|refine xR (ja3 @dk @hAl @hg) ?_|exact xU (ja3 @dk @hAl @hg))
    refine Zaz _ (.inl ⟨rfl,lc⟩) ?_
    repeat (first|refine xR (ja5 @hgv @hev @hsp @hll @List.length_map.{0,0}) ?_|exact xU (ja5 @hgv @hev @hsp @hll @List.length_map.{0,0}))
    refine Zaz _ (.inl ⟨rfl,ir⟩) ?_
    repeat (first|refine xS ?_|exact xT)
    refine At.of (k+1,cl2,cd,gc+1) ⟨by simp only;omega,hcl2,hcd,by simp only;omega⟩ (by simp only;omega) rfl rfl (Nat.le_refl _) ?_ ?_
    iterate 2 (case _=>(first|exact vU @hsp|refine vR @hsp ?_))
  ·have dk:decide ((k:Int)<(P.length:Int))=false:=decide_eq_false zO
   rw [List.take_of_length_le zO] at hcl hcd
   have hsn:=Zmg (n:=286) (u:=256) (S:=Zph P) zO
   have hge:cl.getD 256 0=(Zph P).count 256:=by rw [hcl,Zli zO]
   have hcv:(Zph P).count 256≤20000:=Nat.le_trans List.count_le_length (by rw [ZiD];omega)
   rw [←hcl] at hsn
   obtain ⟨v,hv⟩:∃ v,v=(Zph P).count 256:=⟨_,rfl⟩
   rw [←hv] at hsn hcv hge
   have hgv:(cl.map nA).getD 256 .junk = .sc (.int .i64 (v:Int)):=by rw [Zct zO,hge]
   obtain ⟨v1,hv1⟩:∃ v1,v1=v+1:=⟨_,rfl⟩
   rw [←hv1] at hsn
   have hev:(v:Int)+1=(v1:Int):=zO
   have hsp:=ZbJ (l:=cl) (k:=256) (x:=v1) zO
   rw [hsn,←ZgF,←Zhp] at hsp
   obtain ⟨c2,hc2⟩:∃ c,c=ctN 286 (Zph P++[256]):=⟨_,rfl⟩
   rw [←hc2] at hsp
   have hc2l:c2.length=286:=by rw [hc2,Zbw]
   have hdC:cd=Zu2 P:=hcd
   rw [←hdC] at bd
   by_cases cz:P.length=0
   ·have dz:decide ((P.length:Int)=0)=true:=decide_eq_true zO
    have hsn:=Zmg (n:=286) (u:=0) (S:=Zph P++[256]) zO
    have hge:c2.getD 0 0=(Zph P++[256]).count 0:=by rw [hc2,Zli zO]
    have hcv:(Zph P++[256]).count 0≤20001:=Nat.le_trans List.count_le_length (by rw [List.length_append,ZiD];simp;omega)
    rw [←hc2] at hsn
    obtain ⟨w,hw⟩:∃ v,v=(Zph P++[256]).count 0:=⟨_,rfl⟩
    rw [←hw] at hsn hcv hge
    have hgw:(c2.map nA).getD 0 .junk = .sc (.int .i64 (w:Int)):=by rw [Zct zO,hge]
    obtain ⟨w1,hw1⟩:∃ v1,v1=w+1:=⟨_,rfl⟩
    rw [←hw1] at hsn
    have ew:(w:Int)+1=(w1:Int):=zO
    have hsq:=ZbJ (l:=c2) (k:=0) (x:=w1) zO
    rw [hsn,←ZgF,←Zhp] at hsq
    obtain ⟨c3,hc3⟩:∃ c,c=ctN 286 (Zph P++[256]++[0]):=⟨_,rfl⟩
    rw [←hc3] at hsq
    have hc3l:c3.length=286:=by rw [hc3,Zbw]
    have hlC:c3=Zlj P:=by rw [hc3,Zlj,if_pos cz]
    rw [←hlC] at bl
    rw [List.take_zero,List.nil_append,Nat.zero_add] at hsq
    repeat (first|refine xR (ja8 @dk @hAl @hgv @hev @hsp @hll @dz (ja5 @hgw @ew @hsq @hc2l @List.length_map.{0,0})) ?_|exact xU (ja8 @dk @hAl @hgv @hev @hsp @hll @dz (ja5 @hgw @ew @hsq @hc2l @List.length_map.{0,0})))
    refine Zfj 7 3 (nl:=false) (cells:=c3.map nA) [.sl false none (c3.map nA),int ((15:Nat):Int)] _ vT (vU @Zaa) ?_ (vU @Zaa) bl ?_
    ·(first|exact vU (ja3 fR iR @hc3l)|refine vR (ja3 fR iR @hc3l) ?_)
    repeat (first|refine xR BH1 ?_|exact xU BH1)
    refine Zfj 8 4 (nl:=false) (cells:=cd.map nA) [.sl false none (cd.map nA),int ((15:Nat):Int)] _ vT (vU @Zaa) ?_ (vU @Zaa) bd ?_
    ·(first|exact vU (ja3 fR iR @hdl)|refine vR (ja3 fR iR @hdl) ?_)
    repeat (first|refine xR BH3 ?_|exact xU BH3)
   ·have dz:decide ((P.length:Int)=0)=false:=decide_eq_false zO
    have hlC:c2=Zlj P:=by rw [hc2,Zlj,if_neg cz,List.append_nil]
    rw [←hlC] at bl
    repeat (first|refine xR (ja8 @dk @hAl @hgv @hev @hsp @hll @dz @List.length_map.{0,0}) ?_|exact xU (ja8 @dk @hAl @hgv @hev @hsp @hll @dz @List.length_map.{0,0}))
    refine Zfj 7 3 (nl:=false) (cells:=c2.map nA) [.sl false none (c2.map nA),int ((15:Nat):Int)] _ vT (vU @Zaa) ?_ (vU @Zaa) bl ?_
    ·(first|exact vU (ja3 fR iR @hc2l)|refine vR (ja3 fR iR @hc2l) ?_)
    repeat (first|refine xR BH1 ?_|exact xU BH1)
    refine Zfj 8 4 (nl:=false) (cells:=cd.map nA) [.sl false none (cd.map nA),int ((15:Nat):Int)] _ vT (vU @Zaa) ?_ (vU @Zaa) bd ?_
    ·(first|exact vU (ja3 fR iR @hdl)|refine vR (ja3 fR iR @hdl) ?_)
    repeat (first|refine xR BH3 ?_|exact xU BH3)
def tlO:List Nat:=[16,17,18,0,8,7,9,6,10,5,11,4,12,3,13,2,14,1,15]
theorem ZEd:∀ k,k<19→tlO.getD k 0<19:=by decide
def tdL (l d:List Nat):List Nat:=Zdi l 257++Zdi d 1
def tdF (l d:List Nat):List Nat:=Zc5 (ctT (tls (tdL l d))) 7
def tdO (F:List Nat):List Nat:=tlO.map fun i=>F.getD i 0
def Zmi (l d:List Nat):List Nat :=
 ZbE ((Zdi l 257).length-257) 5++(ZbE ((Zdi d 1).length-1) 5++(ZbE ((Zdi (tdO (tdF l d)) 4).length-4) 4 ++
  ((Zdi (tdO (tdF l d)) 4).flatMap (fun x=>ZbE x 3)++(tls (tdL l d)).flatMap (ZjZ (tdF l d)))))
theorem Zc6 {l:List Nat} {q:Nat} (h:q≤l.length):q≤(Zdi l q).length∧(Zdi l q).length≤l.length:=by
 rw [Zdi,List.length_take]
 have h1:=ZA8 (l:=l) (q:=q) h
 have h2:=Zpf (l:=l) (q:=q) (n:=l.length)
 omega
theorem ZeY {l:List Nat} {q b:Nat} (h:∀ x∈l,x≤b):∀ x∈Zdi l q,x≤b:=fun x hx=>h x (List.mem_of_mem_take hx)
theorem ZDC [Tabs Tryz.prog] (X:List Nat) (hl:X.length≤2000000) (hX:∀ x∈X,x<2) (v:Nat) (hv:v<16777216) (n:Nat) (hn:n≤24) (Y:List Nat) (hY:Y=X++ZbE v n) :
  HCon Tryz.prog ZaE [.op 1000 0 0,.sc (.int .i64 (v:Int)),.sc (.int .i64 (n:Int))] [.row false (wrR 0 ((X.length+7) / 8) X.length),.row (nl0 ((X.length+7) / 8)) ((Zax X).map u8)] (.tup [])
   [(1000,0,.row false (wrR 60 ((Y.length+7) / 8) Y.length)),(1001,60,.row (nl0 ((Y.length+7) / 8)) ((Zax Y).map u8))] 61:=by
 have h:=Zf0 X hl hX v hv n hn X.length ((X.length+7) / 8) rfl rfl
 have e:X.length+n=Y.length:=by rw [hY,List.length_append,Zar]
 rw [←hY,e] at h
 exact h
theorem Zv9 {X Y:List Nat} {v n:Nat} (hX:∀ x∈X,x<2) (hY:Y=X++ZbE v n):∀ x∈Y,x<2:=fun x hx=>by rw [hY] at hx;exact (List.mem_append.1 hx).elim (hX x) (Zfn x)
theorem ZrD {X Y:List Nat} {v n:Nat} (hY:Y=X++ZbE v n):Y.length=X.length+n:=by rw [hY,List.length_append,Zar]
set_option maxHeartbeats 2000000 in
theorem ZrE [Tabs Tryz.prog] (ht:Tabs.tab Tryz.prog 0=some (tlO.map nA)) (L:List Nat) (hl:L.length≤100000) (hL:∀ x∈L,x<2) (l d:List Nat) (ol:LnOk l) (od:LnOk d) (l1:l.length=286) (d1:d.length=30) (i m:Nat) (hi:i=L.length) (hm:m=(L.length+7) / 8) (j:Nat) (hj:j=(L++Zmi l d).length) :
  HCon Tryz.prog Ze4 [.agg [.op 1000 0 0],Zqx l d] [.row false (wrR 0 m i),.row (nl0 m) ((Zax L).map u8)] (.tup [])
   [(1000,0,.row false (wrR (KE+1) ((j+7) / 8) j)),(1001,KE+1,.row (nl0 ((j+7) / 8)) ((Zax (L++Zmi l d)).map u8))] (KE+2):=by
 refine HCon.of' mix Tryz.func41 rfl Tryz.ntmps41 Zjm Zjn zB ?_ Zmd ?_
 ·simp only [AV.gl.glL,AV.gl,Zqx,and_true,true_and]
  exact ⟨by omega,Zag _ _ Zaa,Zag _ _ Zaa,Zag _ _ Zaa,Zag _ _ Zaa⟩
 unfold Zfa
 have hG:∀ st,ev Tryz.prog st (.global 0) = .fp (.agg (tlO.map nA)) 0:=fun st=>ZoI ht
 obtain ⟨O,hO⟩:∃ O,O=tlO:=⟨_,rfl⟩
 have hOl:O.length=19:=by rw [hO];rfl
 have hOx:∀ k,k<19→O.getD k 0<19:=by rw [hO];exact ZEd
 rw [←hO] at hG
 have k1:=Zc6 (l:=l) (q:=257) zO
 have k2:=Zc6 (l:=d) (q:=1) zO
 have cl:=ZF3 false l zO 257 zO
 have cd:=ZF3 false d zO 1 zO
 have h15:∀ x∈tdL l d,x≤15:=fun x hx=>(List.mem_append.1 hx).elim (ZeY ol.small x) (ZeY od.small x)
 have kl:(tdL l d).length≤320:=by rw [tdL,List.length_append];omega
 have cc:=ZkG false false ((Zdi l 257).map nA) ((Zdi d 1).map nA) Zaa Zaa (by rw [List.length_map];omega) (by rw [List.length_map];omega) (by rw [List.length_map,List.length_map];omega)
 rw [←List.map_append,←tdL] at cc
 have ct:=ZBa false (tdL l d) zO h15
 obtain ⟨o1,o2⟩:=Zv7 h15
 have cb:=Ztl (nl0 (tls (tdL l d)).length) (tls (tdL l d)) zO o1
 rw [←tdF] at cb
 have oF:LnOk (tdF l d):=ZjD (Zv8 zO)
 have lF:(tdF l d).length=19:=by rw [tdF,Zcv,ctT,Zbw]
 have hB:Zmi l d=ZbE ((Zdi l 257).length-257) 5++(ZbE ((Zdi d 1).length-1) 5++(ZbE ((Zdi (tdO (tdF l d)) 4).length-4) 4++((Zdi (tdO (tdF l d)) 4).flatMap (fun x=>ZbE x 3)++(tls (tdL l d)).flatMap (ZjZ (tdF l d))))):=rfl
 have hOF:tdO (tdF l d)=O.map fun i=>(tdF l d).getD i 0:=by rw [hO];rfl
 obtain ⟨B,hBe⟩:∃ B,B=Zmi l d:=⟨_,rfl⟩
 rw [←hBe] at hB hj ⊢
 obtain ⟨F,hF⟩:∃ F,F=tdF l d:=⟨_,rfl⟩
 rw [←hF] at cb oF lF hB hOF
 obtain ⟨T,hT⟩:∃ T,T=tls (tdL l d):=⟨_,rfl⟩
 rw [←hT] at ct o1 o2 cb hB
 obtain ⟨S,hS⟩:∃ S,S=tdL l d:=⟨_,rfl⟩
 rw [←hS] at ct cc h15 kl o2
 obtain ⟨L2,hL2⟩:∃ X,X=Zdi l 257:=⟨_,rfl⟩
 obtain ⟨D2,hD2⟩:∃ X,X=Zdi d 1:=⟨_,rfl⟩
 rw [←hL2] at k1 cl cc hB
 rw [←hD2] at k2 cd cc hB
 obtain ⟨V,hV⟩:∃ V,V=tdO F:=⟨_,rfl⟩
 rw [←hV] at hB hOF
 have hVl:V.length=19:=by rw [hOF,List.length_map,hOl]
 have cv:=ZF3 false V zO 4 zO
 have k3:=Zc6 (l:=V) (q:=4) zO
 have hV15:∀ x∈V,x≤15:=fun x hx=>by
  rw [hOF] at hx
  obtain ⟨y,hy,rfl⟩:=List.mem_map.1 hx
  obtain ⟨k,hk,rfl⟩:=List.getElem_of_mem hy
  have:=hOx k zO
  have e:O.getD k 0=O[k]:=by simp [List.getD,hk]
  rw [←e]
  exact ZjE oF.small zO
 have hQ15:=ZeY (q:=4) hV15
 obtain ⟨Q,hQ⟩:∃ Q,Q=Zdi V 4:=⟨_,rfl⟩
 rw [←hQ] at cv k3 hQ15 hB
 clear hS hT hF hV hL2 hD2 hQ
 obtain ⟨C,hC⟩:∃ C,C=Za2 l:=⟨_,rfl⟩
 obtain ⟨D,hD⟩:∃ D,D=Za2 d:=⟨_,rfl⟩
 obtain ⟨E,hE⟩:∃ E,E=Za2 F:=⟨_,rfl⟩
 unfold Zqx
 rw [←hC,←hD]
 rw [cdA,←hE] at cb
 obtain ⟨A,hA⟩:∃ A,A=T.map syA:=⟨_,rfl⟩
 have hAl:A.length=T.length:=by rw [hA,List.length_map]
 have fA:AV.free.freeL A=true:=by rw [hA];exact ZrC
 have hgA:∀ k,k<T.length→A.getD k .junk = .agg [.sc (.int .i64 ((T.getD k (0,0,0)).1:Int)),.sc (.int .i64 ((T.getD k (0,0,0)).2.1:Int)),.sc (.int .i64 ((T.getD k (0,0,0)).2.2:Int))]:=fun k hk=>by rw [hA,ZBc hk];rfl
 rw [←hA] at ct cb
 repeat (first|refine zS ?_|exact zT)
 refine Zaz _ (.inl ⟨by simp only [AV.free,AV.free.freeL,Zaa,Bool.and_self],cl⟩) ?_
 repeat (first|refine zS ?_|exact zT)
 refine Zaz _ (.inl ⟨by simp only [AV.free,AV.free.freeL,Zaa,Bool.and_self],cd⟩) ?_
 repeat (first|refine zS ?_|exact zT)
 refine Zfj 25 3 (nl:=false) (cells:=[.sl false none (L2.map nA),.sl false none (D2.map nA)]) [.sl false none [.sl false none (L2.map nA),.sl false none (D2.map nA)]] _ yT (yU (ja8 @Zaa @AV.free.eq_1 @AV.free.eq_2 @AV.free.eq_3 @AV.free.eq_4 @AV.free.eq_5 @AV.free.eq_6 (ja7 @AV.free.eq_7 @AV.free.eq_8 @AV.free.eq_9 @AV.free.eq_10 @AV.free.freeL.eq_1 @AV.free.freeL.eq_2 @Bool.and_self))) ?_ (yU (ja8 @Zaa @AV.free.eq_1 @AV.free.eq_2 @AV.free.eq_3 @AV.free.eq_4 @AV.free.eq_5 @AV.free.eq_6 (ja7 @AV.free.eq_7 @AV.free.eq_8 @AV.free.eq_9 @AV.free.eq_10 @AV.free.freeL.eq_1 @AV.free.freeL.eq_2 @Bool.and_self))) cc ?_
 ·(first|exact yU BH1|refine yR BH1 ?_)
 repeat (first|refine zR BH1 ?_|exact zU BH1)
 refine Zaz _ (.inl ⟨by simp only [AV.free,AV.free.freeL,Zaa,Bool.and_self],ct⟩) ?_
 repeat (first|refine zS ?_|exact zT)
 refine Zaz _ (.inl ⟨by simp only [AV.free,AV.free.freeL,fA,Bool.and_self],cb⟩) ?_
 iterate 3 (first|refine zS ?_|exact zT)
 refine SWp.adopt 8 none yT ?_
 have htk:List.take 19 (O.map nA)=O.map nA:=List.take_of_length_le (by rw [List.length_map,hOl];exact Nat.le_refl _)
 repeat (first|refine zR (ja2 @hG @htk) ?_|exact zU (ja2 @hG @htk))
 refine SWp.loop (α:=Nat × Nat × Nat) (fun x=>mk 85 x.2.2 [(2,.op 2 1 0),(4,.sl false none (L2.map nA)),(5,.sl false none (D2.map nA)),(6,.sl (nl0 T.length) (some 3) A),(7,.op 7 4 0),(8,.own 8 x.2.1 none 0 x.1),(30,.agg (O.map nA)),(31,int x.1)] [(1000,0,.row false (wrR 0 m i)),(1001,0,.row (nl0 m) ((Zax L).map u8)),(2,1,.row false [.op 1000 0 0]),(7,4,.row false [.sl false none (F.map nA),.sl false none (E.map nA)]),(8,x.2.1,.row (nl0 x.1) ((V.take x.1).map nA))])
  (fun x=>x.1≤19∧x.2.2≤6+x.1) (fun x=>19-x.1) (0,5,6) ⟨Nat.zero_le _,by simp⟩ (Zaj rfl ?_ ?_ ?_) ?_
 ·exact Nat.le_refl _
 ·(first|exact yT|refine yS ?_)
 ·(first|exact yU (ja2 @Zbh @ZEc)|refine yR (ja2 @Zbh @ZEc) ?_)
  try rfl
 rintro ⟨k,g,gc⟩ ⟨hk,hgc⟩ -
 simp only at hk hgc
 have hVtl:(V.take k).length=k:=by rw [List.length_take,hVl];omega
 by_cases ck:k<19
 ·have dk:decide ((k:Int)<19)=true:=decide_eq_true zO
  have hw:=hOx k ck
  obtain ⟨w,hwe⟩:∃ w,w=O.getD k 0:=⟨_,rfl⟩
  rw [←hwe] at hw
  have hgo:(O.map nA).getD k .junk = .sc (.int .i64 (w:Int)):=by rw [hwe];exact Zct zO
  obtain ⟨v,hv⟩:∃ v,v=F.getD w 0:=⟨_,rfl⟩
  have hgf:(F.map nA).getD w .junk = .sc (.int .i64 (v:Int)):=by rw [hv];exact Zct zO
  have hVv:V.getD k 0=v:=by rw [hOF];simp only [List.getD,List.getElem?_map,List.getElem?_eq_getElem (show k<O.length by omega),Option.map_some,Option.getD_some];rw [hv,hwe];simp [List.getD,hOl,ck]
  have hsn:(V.take k).map nA++[.sc (.int .i64 (v:Int))]=(V.take (k+1)).map nA:=by rw [ZgS (d:=0) zO,List.map_append,hVv];rfl
  have hnl:nl0 (k+1)=false:=Zca zO
  repeat (first|refine zR (ja6 @dk @hgo @hgf @hOl @lF @List.length_map.{0,0}) ?_|exact zU (ja6 @dk @hgo @hgf @hOl @lF @List.length_map.{0,0}))
  refine At.of (k+1,gc,gc+1) ⟨by simp only;omega,by simp only;omega⟩ (by simp only;omega) rfl rfl (Nat.le_refl _) ?_ ?_
  iterate 2 (case _=>(first|exact yU (ja2 @hsn @hnl)|refine yR (ja2 @hsn @hnl) ?_))
 have dk:decide ((k:Int)<19)=false:=decide_eq_false zO
 obtain rfl:k=19:=zO
 rw [List.take_of_length_le zO]
 have hn19:nl0 19=false:=rfl
 obtain ⟨u,hu⟩:∃ u,u=L2.length-257:=⟨_,rfl⟩
 obtain ⟨v,hv⟩:∃ u,u=D2.length-1:=⟨_,rfl⟩
 obtain ⟨w,hw⟩:∃ u,u=Q.length-4:=⟨_,rfl⟩
 have eu:(L2.length:Int)-257=(u:Int):=zO
 have hev:(D2.length:Int)-1=(v:Int):=zO
 have ew:(Q.length:Int)-4=(w:Int):=zO
 obtain ⟨X1,hX1⟩:∃ X,X=L++ZbE u 5:=⟨_,rfl⟩
 obtain ⟨X2,hX2⟩:∃ X,X=X1++ZbE v 5:=⟨_,rfl⟩
 obtain ⟨X3,hX3⟩:∃ X,X=X2++ZbE w 4:=⟨_,rfl⟩
 have a1:=Zv9 hL hX1
 have a2:=Zv9 a1 hX2
 have a3:=Zv9 a2 hX3
 have n1:=ZrD hX1
 have n2:=ZrD hX2
 have n3:=ZrD hX3
 have p1:=ZDC L zO hL u zO 5 zO X1 hX1
 have p2:=ZDC X1 zO a1 v zO 5 zO X2 hX2
 have p3:=ZDC X2 zO a2 w zO 4 zO X3 hX3
 have hB3:L++B=X3++(Q.flatMap (fun x=>ZbE x 3)++T.flatMap (ZjZ F)):=by rw [hB,hX3,hX2,hX1,hu,hv,hw];simp only [List.append_assoc]
 rw [hi,hm]
 rw [hB3] at hj ⊢
 clear hB hB3
 repeat (first|refine zR (ja2 @dk @hn19) ?_|exact zU (ja2 @dk @hn19))
 refine Zfj 8 g (nl:=false) (cells:=V.map nA) [.sl false none (V.map nA),.sc (.int .i64 ((4:Nat):Int))] _ (yU @hn19) (yU @Zaa) ?_ (yU @Zaa) cv ?_
 ·(first|exact yU (ja4 fR iR @hVl @hn19)|refine yR (ja4 fR iR @hVl @hn19) ?_)
 repeat (first|refine zR (ja4 fR iR @eu @List.length_map.{0,0}) ?_|exact zU (ja4 fR iR @eu @List.length_map.{0,0}))
 refine Zae [(1000,0),(1001,0)] 2000 p1 zB zB ?_ ?_ ?_
 iterate 2 (case _=>(first|exact yU BH0|refine yR BH0 ?_))
 repeat (first|refine zR (ja4 @wrR.eq_1 iR @hev @List.length_map.{0,0}) ?_|exact zU (ja4 @wrR.eq_1 iR @hev @List.length_map.{0,0}))
 refine Zae [(1000,0),(1001,gc+60)] 3000 p2 zB zB ?_ ?_ ?_
 iterate 2 (case _=>(first|exact yU BH0|refine yR BH0 ?_))
 repeat (first|refine zR (ja4 @wrR.eq_1 iR @ew @List.length_map.{0,0}) ?_|exact zU (ja4 @wrR.eq_1 iR @ew @List.length_map.{0,0}))
 refine Zae [(1000,0),(1001,gc+61+60)] 4000 p3 zB zB ?_ ?_ ?_
 iterate 2 (case _=>(first|exact yU BH0|refine yR BH0 ?_))
 repeat (first|refine zR BH2 ?_|exact zU BH2)
 obtain ⟨g0,hg0⟩:∃ x,x=gc+61+61+60:=⟨_,rfl⟩
 obtain ⟨gc0,hgc0⟩:∃ x,x=gc+61+61+61:=⟨_,rfl⟩
 refine SWp.loop (α:=Nat × List Nat × Nat × Nat) (fun x=>mk 85 x.2.2.2 [(2,.op 2 1 0),(6,.sl (nl0 T.length) (some 3) A),(7,.op 7 4 0),(63,.sl false none (Q.map nA)),(64,int Q.length),(65,int x.1)] [(1000,0,.row false (wrR x.2.2.1 ((x.2.1.length+7) / 8) x.2.1.length)),(1001,x.2.2.1,.row (nl0 ((x.2.1.length+7) / 8)) ((Zax x.2.1).map u8)),(2,1,.row false [.op 1000 0 0]),(7,4,.row false [.sl false none (F.map nA),.sl false none (E.map nA)])])
  (fun x=>x.1≤Q.length∧x.2.1=X3++(Q.take x.1).flatMap (fun x=>ZbE x 3)∧(∀ y∈x.2.1,y<2)∧x.2.1.length≤100014+3*x.1∧x.2.2.2≤300+61*x.1) (fun x=>Q.length-x.1) (0,X3,gc+61+61+60,gc+61+61+61) ⟨Nat.zero_le _,by simp,a3,by simp only;omega,by simp only;omega⟩ (Zaj rfl ?_ ?_ ?_) ?_
 ·exact Nat.le_refl _
 iterate 2 (case _=>(first|exact yU @wrR.eq_1|refine yR @wrR.eq_1 ?_))
 rintro ⟨k,X,g2,gd⟩ ⟨hk2,hX,hXb,hXl,hgd⟩ -
 simp only at hk2 hX hXb hXl hgd
 by_cases ck2:k<Q.length
 ·have dk:decide ((k:Int)<(Q.length:Int))=true:=decide_eq_true zO
  obtain ⟨x,hx⟩:∃ x,x=Q.getD k 0:=⟨_,rfl⟩
  have hgq:(Q.map nA).getD k .junk = .sc (.int .i64 (x:Int)):=by rw [hx];exact Zct ck2
  have hx15:x≤15:=by rw [hx];exact ZjE hQ15 ck2
  obtain ⟨Y,hY⟩:∃ Y,Y=X++ZbE x 3:=⟨_,rfl⟩
  have py:=ZDC X zO hXb x zO 3 zO Y hY
  have hYl:=ZrD hY
  repeat (first|refine zR (ja4 @dk @hgq @wrR.eq_1 @List.length_map.{0,0}) ?_|exact zU (ja4 @dk @hgq @wrR.eq_1 @List.length_map.{0,0}))
  refine Zae [(1000,0),(1001,g2)] 2000 py zB zB ?_ ?_ ?_
  iterate 2 (case _=>(first|exact yU BH0|refine yR BH0 ?_))
  repeat (first|refine zR BH0 ?_|exact zU BH0)
  refine At.of (k+1,Y,gd+60,gd+61) ⟨by simp only;omega,by simp only;rw [hY,hX,ZgS (d:=0) ck2,←hx,List.flatMap_append];simp [List.append_assoc],Zv9 hXb hY,by simp only;omega,by simp only;omega⟩ (by simp only;omega) rfl rfl (Nat.le_refl _) ?_ ?_
  iterate 2 (case _=>(first|exact yU @wrR.eq_1|refine yR @wrR.eq_1 ?_))
 have dk:decide ((k:Int)<(Q.length:Int))=false:=decide_eq_false zO
 obtain rfl:k=Q.length:=zO
 rw [List.take_of_length_le (Nat.le_refl _)] at hX
 have hB4:X3++(Q.flatMap (fun x=>ZbE x 3)++T.flatMap (ZjZ F))=X++T.flatMap (ZjZ F):=by rw [hX,List.append_assoc]
 rw [hB4] at hj ⊢
 clear hB4 hX
 repeat (first|refine zR (ja2 @dk @hAl) ?_|exact zU (ja2 @dk @hAl))
 refine SWp.loop (α:=Nat × List Nat × Nat × Nat) (fun x=>mk 85 x.2.2.2 [(2,.op 2 1 0),(7,.op 7 4 0),(74,.sl (nl0 T.length) (some 3) A),(75,int T.length),(76,int x.1)] [(1000,0,.row false (wrR x.2.2.1 ((x.2.1.length+7) / 8) x.2.1.length)),(1001,x.2.2.1,.row (nl0 ((x.2.1.length+7) / 8)) ((Zax x.2.1).map u8)),(2,1,.row false [.op 1000 0 0]),(7,4,.row false [.sl false none (F.map nA),.sl false none (E.map nA)])])
  (fun x=>x.1≤T.length∧x.2.1=X++(T.take x.1).flatMap (ZjZ F)∧(∀ y∈x.2.1,y<2)∧x.2.1.length≤110000+39*x.1∧x.2.2.2≤20000+127*x.1) (fun x=>T.length-x.1) (0,X,g2,gd) ⟨Nat.zero_le _,by simp,hXb,by simp only;omega,by simp only;omega⟩ (Zaj rfl ?_ ?_ ?_) ?_
 ·exact Nat.le_refl _
 iterate 2 (case _=>(first|exact yU @wrR.eq_1|refine yR @wrR.eq_1 ?_))
 rintro ⟨k,Z,g3,ge⟩ ⟨hk3,hZ,hZb,hZl,hge⟩ -
 simp only at hk3 hZ hZb hZl hge
 by_cases ck3:k<T.length
 ·have dk:decide ((k:Int)<(T.length:Int))=true:=decide_eq_true zO
  have hg:=hgA k ck3
  obtain ⟨s,hs⟩:∃ s,s=T.getD k (0,0,0):=⟨_,rfl⟩
  rw [←hs] at hg
  have hsT:s∈T:=by
   have:T.getD k (0,0,0)=T[k]:=by simp [List.getD,ck3]
   rw [hs,this];exact List.getElem_mem _
  have hso:=o1 s hsT
  have sy:SyOk F s:=⟨by rw [lF];exact hso.num,by have:=hso.more;omega,by have:=hso.bits;omega⟩
  obtain ⟨Y,hY⟩:∃ Y,Y=Z++ZjZ F s:=⟨_,rfl⟩
  have hYl:Y.length≤Z.length+39:=by rw [hY,List.length_append];have:=ZfV oF sy;omega
  have ps:=Zep Z zO hZb false F oF s sy Z.length ((Z.length+7) / 8) rfl rfl Y.length (by rw [hY])
  rw [←hY,cdA,←hE,syA] at ps
  repeat (first|refine zR (ja4 @dk @hg @hAl @wrR.eq_1) ?_|exact zU (ja4 @dk @hg @hAl @wrR.eq_1))
  refine Zae [(1000,0),(1001,g3)] 2000 ps zB zB ?_ ?_ ?_
  iterate 2 (case _=>(first|exact yU BH0|refine yR BH0 ?_))
  repeat (first|refine zR BH0 ?_|exact zU BH0)
  refine At.of (k+1,Y,ge+1+125,ge+1+126) ⟨by simp only;omega,by simp only;rw [hY,hZ,ZgS (d:=(0,0,0)) ck3,←hs,List.flatMap_append];simp [List.append_assoc],fun y hy=>by simp only at hy;rw [hY] at hy;exact (List.mem_append.1 hy).elim (hZb y) (Zlh y),by simp only;omega,by simp only;omega⟩ (by simp only;omega) rfl rfl (Nat.le_refl _) ?_ ?_
  iterate 2 (case _=>(first|exact yU @wrR.eq_1|refine yR @wrR.eq_1 ?_))
 have dk:decide ((k:Int)<(T.length:Int))=false:=decide_eq_false zO
 rw [List.take_of_length_le zO] at hZ
 rw [←hZ] at hj ⊢
 rw [hj]
 iterate 4 (first|refine zR @dk ?_|exact zU @dk)
 refine SWp.le (Zaj (N:=85) (gc:=KE+1) (l:=[]) (h:=[(1000,0,.row false (wrR g3 ((Z.length+7) / 8) Z.length)),(1001,g3,.row (nl0 ((Z.length+7) / 8)) ((Zax Z).map u8))]) rfl ?_ ?_ ?_) ?_
 ·have:=ZFZ
  show ge≤KE+1
  omega
 iterate 2 (case _=>(first|exact yU @wrR.eq_1|refine yR @wrR.eq_1 ?_))
 refine SWp.renew 1001 g3 (o:=.row (nl0 ((Z.length+7) / 8)) ((Zax Z).map u8)) yT ?_
 refine SWp.le (Zaj (N:=85) (gc:=KE+2) (l:=[]) (h:=[(1000,0,.row false (wrR (KE+1) ((Z.length+7) / 8) Z.length)),(1001,KE+1,.row (nl0 ((Z.length+7) / 8)) ((Zax Z).map u8))]) rfl ?_ ?_ ?_) ?_
 iterate 3 (case _=>(first|exact yU (ja5 @Zba @Zbb @ZoJ iR @wrR.eq_1)|refine yR (ja5 @Zba @Zbb @ZoJ iR @wrR.eq_1) ?_))
 repeat (first|refine zR (ja2 iR @wrR.eq_1) ?_|exact zU (ja2 iR @wrR.eq_1))
theorem Ztm:∀ {Q:List Nat},(Q.flatMap fun x=>ZbE x 3).length=3*Q.length
 | []=>rfl
 | x::Q=>by rw [List.flatMap_cons,List.length_append,Zar,Ztm,List.length_cons];omega
theorem Ztn {F:List Nat} (oF:LnOk F):∀ {T:List (Nat × Nat × Nat)},(∀ s∈T,SyOk F s)→(T.flatMap (ZjZ F)).length≤39*T.length
 | [],_=>Nat.le_refl _
 | s::T,h=>by
  rw [List.flatMap_cons,List.length_append,List.length_cons]
  have:=ZfV oF (h s zB)
  have:=Ztn oF (T:=T) fun t ht=>h t (by simp [ht])
  omega
theorem Zj1 {l d:List Nat} (ol:LnOk l) (od:LnOk d) (l1:l.length=286) (d1:d.length=30):(Zmi l d).length≤20000∧∀ x∈Zmi l d,x<2:=by
 have k1:=Zc6 (l:=l) (q:=257) zO
 have k2:=Zc6 (l:=d) (q:=1) zO
 have h15:∀ x∈tdL l d,x≤15:=fun x hx=>(List.mem_append.1 hx).elim (ZeY ol.small x) (ZeY od.small x)
 have kl:(tdL l d).length≤320:=by rw [tdL,List.length_append];omega
 obtain ⟨o1,o2⟩:=Zv7 h15
 have oF:LnOk (tdF l d):=ZjD (Zv8 zO)
 have lF:(tdF l d).length=19:=by rw [tdF,Zcv,ctT,Zbw]
 have lV:(tdO (tdF l d)).length=19:=by rw [tdO,List.length_map];rfl
 have k3:=Zc6 (l:=tdO (tdF l d)) (q:=4) zO
 have sy:∀ s∈tls (tdL l d),SyOk (tdF l d) s:=fun s hs=>⟨by rw [lF];exact (o1 s hs).num,by have:=(o1 s hs).more;omega,by have:=(o1 s hs).bits;omega⟩
 have kT:=Ztn oF sy
 constructor
 ·rw [Zmi]
  simp only [List.length_append,Zar]
  rw [Ztm]
  omega
 ·intro x hx
  rw [Zmi] at hx
  rcases List.mem_append.1 hx with hx | hx
  ·exact Zfn x hx
  rcases List.mem_append.1 hx with hx | hx
  ·exact Zfn x hx
  rcases List.mem_append.1 hx with hx | hx
  ·exact Zfn x hx
  rcases List.mem_append.1 hx with hx | hx
  ·obtain ⟨y,_,hx⟩:=List.mem_flatMap.1 hx
   exact Zfn x hx
  ·obtain ⟨y,_,hx⟩:=List.mem_flatMap.1 hx
   exact Zlh x hx
def bsL (P:List (Nat × Nat)):List Nat:=Zc5 (Zlj P) 15
def bsD (P:List (Nat × Nat)):List Nat:=Zc5 (Zu2 P) 15
def Zyl (P:List (Nat × Nat)):List Nat:=ZbE 1 1++ZbE 2 2++(Zmi (bsL P) (bsD P)++Zny (bsL P) (bsD P) P)
theorem Zoc {P:List (Nat × Nat)} (h:P.length≤20000):LnOk (bsL P)∧LnOk (bsD P)∧(bsL P).length=286∧(bsD P).length=30 :=
 ⟨ZjD (Zmh h),ZjD (Zob h),by rw [bsL,Zcv,Zlj,Zbw],by rw [bsD,Zcv,Zu2,Zbw]⟩
set_option maxHeartbeats 1000000 in
theorem ZnX [Tabs Tryz.prog] (ht:Tabs.tab Tryz.prog 0=some (tlO.map nA)) (L:List Nat) (hl:L.length≤50000) (hL:∀ x∈L,x<2) (nl:Bool) (P:List (Nat × Nat)) (hP:P.length≤20000) (hok:∀ p∈P,Zlg p) (i m:Nat) (hi:i=L.length) (hm:m=(L.length+7) / 8) (j:Nat) (hj:j=(L++Zyl P).length) :
  HCon Tryz.prog ZdV [.agg [.op 1000 0 0],.sl nl (some 2) (P.map pcA)] [.row false (wrR 0 m i),.row (nl0 m) ((Zax L).map u8)] (.tup [])
   [(1000,0,.row false (wrR (127+(KE+2)+(KE+1)) ((j+7) / 8) j)),(1001,127+(KE+2)+(KE+1),.row (nl0 ((j+7) / 8)) ((Zax (L++Zyl P)).map u8))] (127+(KE+2)+(KE+2)):=by
 refine HCon.of' mix Tryz.func17 rfl Tryz.ntmps17 ZhN ZhO zB ?_ Zmd ?_
 ·simp only [AV.gl.glL,AV.gl,and_true,true_and]
  exact ⟨by omega,Zag _ _ Zeo⟩
 unfold ZdZ
 obtain ⟨ol,od,l1,d1⟩:=Zoc hP
 obtain ⟨t1,t2⟩:=Zj1 ol od l1 d1
 obtain ⟨X,hX⟩:∃ X,X=L++(ZbE 1 1++ZbE 2 2):=⟨_,rfl⟩
 obtain ⟨Z,hZ⟩:∃ Z,Z=X++Zmi (bsL P) (bsD P):=⟨_,rfl⟩
 obtain ⟨Y,hY⟩:∃ Y,Y=L++Zyl P:=⟨_,rfl⟩
 have hXl:X.length=i+1+2:=by rw [hX,List.length_append,List.length_append,Zar,Zar,hi]
 have hX2:∀ x∈X,x<2:=fun x hx=>by
  rw [hX] at hx
  rcases List.mem_append.1 hx with hx | hx
  ·exact hL x hx
  ·rcases List.mem_append.1 hx with hx | hx <;> exact Zfn x hx
 have hZl:Z.length≤i+1+2+20000:=by rw [hZ,List.length_append];omega
 have hZ2:∀ x∈Z,x<2:=fun x hx=>by rw [hZ] at hx;exact (List.mem_append.1 hx).elim (hX2 x) (t2 x)
 have hYe:Z++Zny (bsL P) (bsD P) P=Y:=by rw [hZ,hX,hY,Zyl];simp only [List.append_assoc]
 have p1:=Zhr L zO hL 1 2 zO zO i m hi hm
 have p2:=ZrE ht X zO hX2 (bsL P) (bsD P) ol od l1 d1 (i+1+2) ((i+1+2+7) / 8) hXl.symm (by rw [hXl]) Z.length (by rw [hZ])
 have p3:=ZjF Z zO hZ2 nl P hP hok (bsL P) (bsD P) ol od zO zO Z.length ((Z.length+7) / 8) rfl rfl j (by rw [hYe,hj,hY])
 have pb:=Zu3 nl P hP hok
 rw [←bsL,←bsD] at pb
 rw [hYe] at p3
 rw [←hZ] at p2
 rw [←hY]
 rw [←hX] at p1
 have hrF:∀ ρ,ren.renL ρ ((bsL P).map nA)=(bsL P).map nA:=fun ρ=>Zbm ρ _ Zaa
 obtain ⟨l,hl2⟩:∃ F,F=bsL P:=⟨_,rfl⟩
 obtain ⟨d,hd2⟩:∃ F,F=bsD P:=⟨_,rfl⟩
 rw [←hl2,←hd2] at p2 p3 pb
 obtain ⟨A,hA⟩:∃ A,A=P.map pcA:=⟨_,rfl⟩
 have hrA:∀ ρ,ren.renL ρ A=A:=fun ρ=>by rw [hA];exact Zbm ρ _ Zeo
 have fA:AV.free.freeL A=true:=by rw [hA];exact Zeo
 rw [←hA] at p3 pb ⊢
 obtain ⟨C,hC⟩:∃ C,C=Za2 l:=⟨_,rfl⟩
 obtain ⟨D,hD⟩:∃ D,D=Za2 d:=⟨_,rfl⟩
 rw [Zqx,←hC,←hD] at p2 p3 pb
 repeat (first|refine zS ?_|exact zT)
 refine Zaz _ (.inl ⟨by simp only [AV.free,AV.free.freeL,fA,Bool.and_self],pb⟩) ?_
 repeat (first|refine zS ?_|exact zT)
 refine Zae [(1000,0),(1001,0)] 2000 p1 zB zB ?_ ?_ ?_
 iterate 2 (case _=>(first|exact yU BH0|refine yR BH0 ?_))
 repeat (first|refine zR BH0 ?_|exact zU BH0)
 refine Zae [(1000,0),(1001,126)] 3000 p2 zB zB ?_ ?_ ?_
 iterate 2 (case _=>(first|exact yU BH0|refine yR BH0 ?_))
 repeat (first|refine zR BH0 ?_|exact zU BH0)
 refine Zae [(1000,0),(1001,127+(KE+1))] 4000 p3 zB zB ?_ ?_ ?_
 iterate 2 (case _=>(first|exact yU (ja3 @wrR.eq_1 iR @hrA)|refine yR (ja3 @wrR.eq_1 iR @hrA) ?_))
 repeat (first|refine zR BH0 ?_|exact zU BH0)
theorem ZqF:Zax []=[]:=rfl
theorem ZqG {b:List UInt8}:(stL b).length=b.length+5*((b.length-1) / 65535+1):=by
 rw [stL,List.length_append,Zm7 zO,ZgI,List.length_drop];omega
set_option maxHeartbeats 1000000 in
theorem Zto [Tabs Tryz.prog] (nl:Bool) (b:List UInt8) (hb:b.length≤170000):Con Tryz.prog Zbe [.sl nl none (b.map u8),.sc (.int .i64 0)] (.tup [.sl false none ((stL b).map u8),.sc (.int .i64 0)]):=by
 refine Con.of' mix Tryz.func6 rfl Tryz.ntmps6 Zc3 Zc4 zB (by simp only [AV.free,AV.free.freeL,ZaD,Bool.and_self]) (by simp only [AV.free,AV.free.freeL,ZaD,Bool.and_self]) ?_
 unfold Zcm
 obtain ⟨n,hn⟩:∃ n,n=(stL b).length:=⟨_,rfl⟩
 have hnl:=ZqG (b:=b)
 have hn0:nl0 n=false:=Zca zO
 have ps:=Zpe nl b hb n hn
 have pb:=ZiB n (8*n) (stL b) hn.symm zO
 have nw:=Zfp
 have d:decide ((16777216:Int)<(b.length:Int))=false:=decide_eq_false zO
 obtain ⟨B,hB⟩:∃ B,B=stL b:=⟨_,rfl⟩
 rw [←hB] at ps pb ⊢
 rw [hn0] at ps pb
 repeat (first|refine zR (ja2 @d @List.length_map.{0,0}) ?_|exact zU (ja2 @d @List.length_map.{0,0}))
 refine Zae [] 2000 nw zB zB ?_ ?_ ?_
 iterate 2 (case _=>(first|exact yT|refine yS ?_))
 repeat (first|refine zR iR ?_|exact zU iR)
 refine Zae [(2002,1),(2100,2)] 3000 ps zB zB ?_ ?_ ?_
 iterate 2 (case _=>(first|exact yU BH0|refine yR BH0 ?_))
 repeat (first|refine zR BH0 ?_|exact zU BH0)
 refine Zae [(2002,1),(2100,2255)] 4000 pb zB zB ?_ ?_ ?_
 iterate 2 (case _=>(first|exact yU BH0|refine yR BH0 ?_))
 repeat (first|refine zR BH0 ?_|exact zU BH0)
theorem ZDD {P:List (Nat × Nat)} (h:P.length≤20000) (hok:∀ p∈P,Zlg p):3≤(Zyv P).length∧(Zyv P).length≤2000000:=by
 rw [Zyv,Zny]
 simp only [List.length_append,Zar]
 have h1:=Zme Zo6 Ztb ZkH.1 ZkH.2 hok
 have h2:=ZfV Zo6 (Ztk ZkH.1)
 omega
theorem ZDE {P:List (Nat × Nat)} (h:P.length≤20000) (hok:∀ p∈P,Zlg p):3≤(Zyl P).length∧(Zyl P).length≤2000000:=by
 obtain ⟨ol,od,l1,d1⟩:=Zoc h
 have t1:=(Zj1 ol od l1 d1).1
 rw [Zyl,Zny]
 simp only [List.length_append,Zar]
 have h1:=Zme ol od zO zO hok
 have h2:=ZfV ol (Ztk zO)
 omega
def ZDF (b:List UInt8):List UInt8:=Zax (Zyv (ZjX b))
theorem Zpj {b:List UInt8}:(ZDF b).length=((Zyv (ZjX b)).length+7) / 8:=Za9
set_option maxHeartbeats 1000000 in
theorem Ztp [Tabs Tryz.prog] (nl:Bool) (b:List UInt8) (hb:b.length≤20000):Con Tryz.prog Zbe [.sl nl none (b.map u8),.sc (.int .i64 1)] (.tup [.sl false none ((ZDF b).map u8),.sc (.int .i64 0)]):=by
 refine Con.of' mix Tryz.func6 rfl Tryz.ntmps6 Zc3 Zc4 zB (by simp only [AV.free,AV.free.freeL,ZaD,Bool.and_self]) (by simp only [AV.free,AV.free.freeL,ZaD,Bool.and_self]) ?_
 unfold Zcm
 obtain ⟨j,hj⟩:∃ j,j=(Zyv (ZjX b)).length:=⟨_,rfl⟩
 have hj3:=ZDD (ZiA hb) (Ziz hb)
 rw [←hj] at hj3
 have hn0:nl0 ((j+7) / 8)=false:=Zca zO
 have hol:=Zpj (b:=b)
 rw [←hj] at hol
 have pc:=ZqD nl b hb
 have ps:=ZpT [] zB zB (nl0 (ZjX b).length) (ZjX b) (ZiA hb) (Ziz hb) 0 0 rfl rfl j hj
 rw [List.nil_append,ZqF,←ZDF] at ps
 obtain ⟨q,hq⟩:∃ q,126+(KE+1)=q+1:=⟨126+KE,by omega⟩
 have hq2:126+(KE+2)=q+2:=zO
 rw [hq,hq2] at ps
 have pb:=ZiB ((j+7) / 8) j (ZDF b) hol zO
 have nw:=Zfp
 have d:decide ((16777216:Int)<(b.length:Int))=false:=decide_eq_false zO
 obtain ⟨B,hB⟩:∃ B,B=ZDF b:=⟨_,rfl⟩
 rw [←hB] at ps pb ⊢
 rw [hn0] at ps pb
 obtain ⟨P,hP⟩:∃ P,P=(ZjX b).map pcA:=⟨_,rfl⟩
 have hrP:∀ ρ,ren.renL ρ P=P:=fun ρ=>by rw [hP];exact Zbm ρ _ Zeo
 rw [←hP] at pc ps
 repeat (first|refine zR (ja2 @d @List.length_map.{0,0}) ?_|exact zU (ja2 @d @List.length_map.{0,0}))
 refine Zae [] 2000 nw zB zB ?_ ?_ ?_
 iterate 2 (case _=>(first|exact yT|refine yS ?_))
 repeat (first|refine zR iR ?_|exact zU iR)
 refine Zaz _ (.inl ⟨by simp only [AV.free,AV.free.freeL,ZaD,Bool.and_self],pc⟩) ?_
 repeat (first|refine zR iR ?_|exact zU iR)
 refine Zae [(2002,1),(2100,2)] 3000 ps zB zB ?_ ?_ ?_
 iterate 2 (case _=>(first|exact yU (ja4 @wrR.eq_1 iR @hrP @ZEc)|refine yR (ja4 @wrR.eq_1 iR @hrP @ZEc) ?_))
 repeat (first|refine zR BH0 ?_|exact zU BH0)
 refine Zae [(2002,1),(2100,4+(q+1))] 4000 pb zB zB ?_ ?_ ?_
 iterate 2 (case _=>(first|exact yU BH0|refine yR BH0 ?_))
 repeat (first|refine zR BH0 ?_|exact zU BH0)
def ZDG (b:List UInt8):List UInt8:=Zax (Zyl (ZjX b))
theorem Zpk {b:List UInt8}:(ZDG b).length=((Zyl (ZjX b)).length+7) / 8:=Za9
set_option maxHeartbeats 1000000 in
theorem ZBf [Tabs Tryz.prog] (ht:Tabs.tab Tryz.prog 0=some (tlO.map nA)) (nl:Bool) (b:List UInt8) (hb:b.length≤20000):Con Tryz.prog Zbe [.sl nl none (b.map u8),.sc (.int .i64 2)] (.tup [.sl false none ((ZDG b).map u8),.sc (.int .i64 0)]):=by
 refine Con.of' mix Tryz.func6 rfl Tryz.ntmps6 Zc3 Zc4 zB (by simp only [AV.free,AV.free.freeL,ZaD,Bool.and_self]) (by simp only [AV.free,AV.free.freeL,ZaD,Bool.and_self]) ?_
 unfold Zcm
 obtain ⟨j,hj⟩:∃ j,j=(Zyl (ZjX b)).length:=⟨_,rfl⟩
 have hj3:=ZDE (ZiA hb) (Ziz hb)
 rw [←hj] at hj3
 have hn0:nl0 ((j+7) / 8)=false:=Zca zO
 have hol:=Zpk (b:=b)
 rw [←hj] at hol
 have pc:=ZqD nl b hb
 have ps:=ZnX ht [] zB zB (nl0 (ZjX b).length) (ZjX b) (ZiA hb) (Ziz hb) 0 0 rfl rfl j hj
 rw [List.nil_append,ZqF,←ZDG] at ps
 obtain ⟨q,hq⟩:∃ q,127+(KE+2)+(KE+1)=q+1:=⟨127+(KE+2)+KE,by omega⟩
 have hq2:127+(KE+2)+(KE+2)=q+2:=zO
 rw [hq,hq2] at ps
 have pb:=ZiB ((j+7) / 8) j (ZDG b) hol zO
 have nw:=Zfp
 have d:decide ((16777216:Int)<(b.length:Int))=false:=decide_eq_false zO
 obtain ⟨B,hB⟩:∃ B,B=ZDG b:=⟨_,rfl⟩
 rw [←hB] at ps pb ⊢
 rw [hn0] at ps pb
 obtain ⟨P,hP⟩:∃ P,P=(ZjX b).map pcA:=⟨_,rfl⟩
 have hrP:∀ ρ,ren.renL ρ P=P:=fun ρ=>by rw [hP];exact Zbm ρ _ Zeo
 rw [←hP] at pc ps
 repeat (first|refine zR (ja2 @d @List.length_map.{0,0}) ?_|exact zU (ja2 @d @List.length_map.{0,0}))
 refine Zae [] 2000 nw zB zB ?_ ?_ ?_
 iterate 2 (case _=>(first|exact yT|refine yS ?_))
 repeat (first|refine zR iR ?_|exact zU iR)
 refine Zaz _ (.inl ⟨by simp only [AV.free,AV.free.freeL,ZaD,Bool.and_self],pc⟩) ?_
 repeat (first|refine zR iR ?_|exact zU iR)
 refine Zae [(2002,1),(2100,2)] 3000 ps zB zB ?_ ?_ ?_
 iterate 2 (case _=>(first|exact yU (ja4 @wrR.eq_1 iR @hrP @ZEc)|refine yR (ja4 @wrR.eq_1 iR @hrP @ZEc) ?_))
 repeat (first|refine zR BH0 ?_|exact zU BH0)
 refine Zae [(2002,1),(2100,4+(q+1))] 4000 pb zB zB ?_ ?_ ?_
 iterate 2 (case _=>(first|exact yU BH0|refine yR BH0 ?_))
 repeat (first|refine zR BH0 ?_|exact zU BH0)
def ZH7 (r:List UInt8 × Nat):AV:=if r.2=0 then .tup [.sl false none (r.1.map u8),int 0] else .tup [.sc (.slice none 0 0),int (r.2:Int)]
def ZBg (b:List UInt8) (how:Int):List UInt8 × Nat:=if how=0 then (stL b,0) else if how=1 then (ZDF b,0) else if how=2 then (ZDG b,0) else ([],1)
theorem Zu4 [Tabs Tryz.prog] (nl:Bool) (b:List UInt8) (how:Int) (h:how<0∨2<how):Con Tryz.prog Zbe [.sl nl none (b.map u8),int how] (.tup [.sc (.slice none 0 0),int 1]):=by
 refine Con.of' mix Tryz.func6 rfl Tryz.ntmps6 Zc3 Zc4 zB (by simp only [AV.free,AV.free.freeL,ZaD,int,Bool.and_self]) rfl ?_
 unfold Zcm
 by_cases c:how<0
 ·have d:=decide_eq_true c
  repeat (first|refine xR @d ?_|exact xU @d)
 ·have d:=decide_eq_false c
  have d2:decide (2<how)=true:=decide_eq_true zO
  repeat (first|refine xR (ja2 @d @d2) ?_|exact xU (ja2 @d @d2))
theorem ZBh [Tabs Tryz.prog] (ht:Tabs.tab Tryz.prog 0=some (tlO.map nA)) (nl:Bool) (b:List UInt8) (hb:b.length≤20000) (how:Int):Con Tryz.prog Zbe [.sl nl none (b.map u8),int how] (ZH7 (ZBg b how)):=by
 unfold ZBg
 by_cases c0:how=0
 ·subst c0;rw [if_pos rfl];exact Zto nl b zO
 rw [if_neg c0]
 by_cases c1:how=1
 ·subst c1;rw [if_pos rfl];exact Ztp nl b hb
 rw [if_neg c1]
 by_cases c2:how=2
 ·subst c2;rw [if_pos rfl];exact ZBf ht nl b hb
 rw [if_neg c2]
 exact Zu4 nl b how zO
def Rds {α:Type} (t:BT α) (X:List Nat) (a:α):Prop:=∀ (B R:List Nat) (i:Nat),i≤B.length→B.drop i=X++R→t.run B i = .ok a (i+X.length)
theorem Rds.ret {α:Type} {a:α}:Rds (.ret a) [] a:=fun B R i hi h=>rfl
theorem Rds.bnd {α β:Type} {t:BT α} {f:α→BT β} {X Y:List Nat} {a:α} {b:β} (h:Rds t X a) (h2:Rds (f a) Y b):Rds (t.bnd f) (X++Y) b:=fun B R i hi hd=>by
 rw [List.append_assoc] at hd
 have hl:=congrArg List.length hd
 rw [List.length_drop,List.length_append] at hl
 rw [Zal,h B (Y++R) i hi hd]
 simp only [BR.bnd]
 rw [h2 B R (i+X.length) zO (by rw [←List.drop_drop,hd,List.drop_left]),List.length_append,Nat.add_assoc]
theorem Rds.bnd0 {α β:Type} {t:BT α} {f:α→BT β} {X:List Nat} {a:α} {b:β} (h:Rds t X a) (h2:Rds (f a) [] b):Rds (t.bnd f) X b:=by
 have:=h.bnd h2
 rwa [List.append_nil] at this
theorem ZjG {v n:Nat}:Rds (ZjN n) (ZbE v n) (v % 2^n):=fun B R i hi hd=>by
 have hl:=congrArg List.length hd
 rw [List.length_drop,List.length_append,Zar] at hl
 rw [Zl3 hi,if_pos zO,hd,List.take_append_of_le_length (by rw [Zar];exact Nat.le_refl _),List.take_of_length_le (by rw [Zar];exact Nat.le_refl _),Zj0,Zar]
theorem Zpl {l:List Nat} (ol:LnOk l) {s:Nat} (hs:s<l.length) (h0:l.getD s 0≠0):Rds (Zx0 l 15 0 0) (ZiT ((Za2 l).getD s 0) (l.getD s 0)) s:=fun B R i hi hd=>by
 obtain ⟨m,hm⟩:∃ m,l.getD s 0=m:=⟨_,rfl⟩
 have hm15:=ZjE ol.small hs
 have hc:(Za2 l).getD s 0=ZaZ l s:=by simp [Za2,List.getD,hs]
 rw [hm] at h0 hm15 hd ⊢
 rw [hc] at hd ⊢
 have hl:=congrArg List.length hd
 rw [List.length_append,Zbv] at hl
 have hn:=ZFI ol.small ol.kr hs hm h0 hm15 (B:=B.drop i) zO (fun j hj=>by
  rw [hd]
  simp [List.getD,ZiT,List.getElem?_append,hj])
 rw [ZmY,hn,Zys,if_pos rfl,Zbv]
theorem Zpm {l:List Nat} {s:Nat} (h:l.getD s 0≠0):s<l.length:=by
 rcases Nat.lt_or_ge s l.length with c | c
 ·exact c
 ·exact absurd (by simp [List.getD,c]) h
theorem ZBi:∀ w,w<255→Zi7 w 2<28∧(Zi7 w 2<8→w=Zi7 w 2∧ZbO w 2=0)∧(8≤Zi7 w 2→ZbO w 2=Zi7 w 2 / 4-1∧(4+Zi7 w 2 % 4)*2^(Zi7 w 2 / 4-1)+w % 2^(Zi7 w 2 / 4-1)=w):=by decide +kernel
theorem ZHO {v:Nat}:ZbE v 0=[]:=rfl
theorem ZrF {v w n:Nat}:Rds (Zfd v n) (ZbE w n) (v+w % 2^n):=ZjG.bnd0 Rds.ret
theorem ZF5 {p:Nat × Nat} (hp:Zlg p) (h0:0<p.2):Rds (ZoS ((Ziy p).1-257)) (ZbE (Ziy p).2.1 (Ziy p).2.2) p.1:=by
 obtain ⟨v,b⟩:=p
 simp only [Zlg] at hp
 simp only at h0
 by_cases c:v=258
 ·subst c
  simp only [Ziy,if_neg (show ¬ b=0 by omega),if_true]
  rw [ZoS,if_neg zO,if_pos zO,ZHO]
  exact Rds.ret
 ·simp only [Ziy,if_neg (show ¬ b=0 by omega),if_neg c]
  obtain ⟨h1,h2,h3⟩:=ZBi (v-3) zO
  rw [Nat.add_sub_cancel,ZoS,if_neg zO,if_neg zO]
  by_cases c8:Zi7 (v-3) 2<8
  ·obtain ⟨e1,e2⟩:=h2 c8
   rw [if_pos c8,e2,ZHO,←e1,show 3+(v-3)=v by omega]
   exact Rds.ret
  ·obtain ⟨e1,e2⟩:=h3 zO
   rw [if_neg c8,←e1]
   rw [←e1] at e2
   have:=ZrF (v:=3+(4+Zi7 (v-3) 2 % 4)*2^ZbO (v-3) 2) (w:=v-3) (n:=ZbO (v-3) 2)
   rw [show 3+(4+Zi7 (v-3) 2 % 4)*2^ZbO (v-3) 2+(v-3) % 2^ZbO (v-3) 2=v by omega] at this
   exact this
theorem ZBj {w:Nat} (h:w<32768):Zi7 w 1<30∧(Zi7 w 1<4→w=Zi7 w 1∧ZbO w 1=0)∧(4≤Zi7 w 1→ZbO w 1=Zi7 w 1 / 2-1∧(2+Zi7 w 1 % 2)*2^(Zi7 w 1 / 2-1)+w % 2^(Zi7 w 1 / 2-1)=w):=by
 refine ⟨ZA2 h,?_⟩
 by_cases c:w=0
 ·subst c;decide
 ·obtain ⟨n,h1,h2⟩:∃ n,2^n≤w∧w<2^(n+1):=⟨w.log2,Nat.log2_self_le c,Nat.lt_log2_self⟩
  have hn:n<15:=by
   rcases Nat.lt_or_ge n 15 with h | h
   ·exact h
   ·have:2^15≤2^n:=Nat.pow_le_pow_right zO h
    omega
  have hb:=Zv4 h1 h2 zO
  have hl:ZbO w 1=n-1:=by rw [ZbO,hb];omega
  by_cases c1:n=0
  ·subst c1
   have:w=1:=zO
   subst this;decide
  ·obtain ⟨k,rfl⟩:∃ k,n=k+1:=⟨n-1,by omega⟩
   rw [Nat.add_sub_cancel] at hl
   obtain ⟨q,hq⟩:∃ q,q=w / 2^k:=⟨_,rfl⟩
   have hq4:q<4:=by
    rw [hq,Nat.div_lt_iff_lt_mul (Nat.two_pow_pos _),show 4*2^k=2^(k+1+1) by rw [Nat.pow_succ,Nat.pow_succ];omega]
    exact h2
   have hq2:2≤q:=by
    rw [hq,Nat.le_div_iff_mul_le (Nat.two_pow_pos _),show 2*2^k=2^(k+1) by rw [Nat.pow_succ];omega]
    exact h1
   have hs:Zi7 w 1=k*2+q:=by rw [Zi7,hl,←hq,Nat.pow_one]
   have hw:2^k*q+w % 2^k=w:=by rw [hq];exact Nat.div_add_mod w (2^k)
   rw [hs,hl]
   refine ⟨fun h4=>?_,fun h4=>?_⟩
   ·obtain rfl:k=0:=zO
    rw [Nat.pow_zero,Nat.div_one] at hq
    omega
   ·have e1:(k*2+q) / 2-1=k:=zO
    have e2:2+(k*2+q) % 2=q:=zO
    rw [e1,e2,Nat.mul_comm q]
    exact ⟨rfl,hw⟩
theorem ZF6 {p:Nat × Nat} (h1:0<p.2) (h2:p.2≤32768):Rds (ZpM (Znx p).1) (ZbE (Znx p).2.1 (Znx p).2.2) p.2:=by
 obtain ⟨v,b⟩:=p
 simp only at h1 h2
 simp only [Znx]
 obtain ⟨f1,f2,f3⟩:=ZBj (w:=b-1) zO
 rw [ZpM,if_neg zO]
 by_cases c4:Zi7 (b-1) 1<4
 ·obtain ⟨e1,e2⟩:=f2 c4
  rw [if_pos c4,e2,ZHO,←e1,show 1+(b-1)=b by omega]
  exact Rds.ret
 ·obtain ⟨e1,e2⟩:=f3 zO
  rw [if_neg c4,←e1]
  rw [←e1] at e2
  have:=ZrF (v:=1+(2+Zi7 (b-1) 1 % 2)*2^ZbO (b-1) 1) (w:=b-1) (n:=ZbO (b-1) 1)
  rw [show 1+(2+Zi7 (b-1) 1 % 2)*2^ZbO (b-1) 1+(b-1) % 2^ZbO (b-1) 1=b by omega] at this
  exact this
def pcD (out:List UInt8) (p:Nat × Nat):List UInt8:=if p.2=0 then out++[UInt8.ofNat p.1] else cpy out p.2 p.1
def Zwa (most:Nat):List (Nat × Nat)→List UInt8→Prop
 | [],_=>True
 | p::P,out=>(if p.2=0 then out.length<most else p.2≤out.length∧out.length+p.1≤most)∧Zwa most P (pcD out p)
theorem ZrG {m n:Nat} (h:m≤n):∀ {P:List (Nat × Nat)} {out:List UInt8},Zwa m P out→Zwa n P out
 | [],_,_=>trivial
 | p::P,out,hf=>by
  rw [Zwa] at hf ⊢
  refine ⟨?_,ZrG h hf.2⟩
  have:=hf.1
  split at this
  ·rename_i c;rw [if_pos c];omega
  ·rename_i c;rw [if_neg c];omega
def cdP (l d:List Nat) (p:Nat × Nat):Prop:=l.getD (Ziy p).1 0≠0∧(0<p.2→d.getD (Znx p).1 0≠0)
theorem ZF7 {l d:List Nat} (od:LnOk d) {most:Nat} {out:List UInt8} {p:Nat × Nat} (hp:Zlg p) (h0:0<p.2) (hc:cdP l d p) (hk:p.2≤out.length) (hm:out.length+p.1≤most) :
  Rds (Zx1 most d out ((Ziy p).1-257)) (ZbE (Ziy p).2.1 (Ziy p).2.2++ZjZ d (Znx p)) (cpy out p.2 p.1):=by
 have h2:p.2≤32768:=by have:=hp;simp only [Zlg] at this;omega
 refine (ZF5 hp h0).bnd ?_
 rw [ZjZ]
 refine (Zpl od (Zpm (hc.2 h0)) (hc.2 h0)).bnd ?_
 refine (ZF6 h0 h2).bnd0 ?_
 rw [if_neg zO,if_neg zO]
 exact Rds.ret
theorem Zwb {p:Nat × Nat} (hp:Zlg p) (h0:0<p.2):257≤(Ziy p).1:=by
 obtain ⟨v,b⟩:=p
 simp only at h0
 simp only [Ziy,if_neg (show ¬ b=0 by omega)]
 split <;> simp only <;> omega
theorem Zm9 {l d:List Nat} (ol:LnOk l) (od:LnOk d) (he:l.getD 256 0≠0) {most:Nat}:∀ {P:List (Nat × Nat)} {F:Nat} {out:List UInt8},P.length<F→(∀ p∈P,Zlg p∧cdP l d p)→Zwa most P out→Rds (ZoT l d most F out) (Zny l d P) (P.foldl pcD out)
 | [],0,_,h,_,_=>by simp at h
 | [],F+1,out,_,_,_=>by
  rw [Zny,List.flatMap_nil,List.nil_append,ZjZ,ZHO,List.append_nil,ZoT]
  refine (Zpl ol (Zpm he) he).bnd0 ?_
  rw [if_neg zO,if_pos rfl]
  exact Rds.ret
 | p::P,0,_,h,_,_=>by simp at h
 | p::P,F+1,out,h,hok,hf=>by
  obtain ⟨hp,hc⟩:=hok p zB
  have ih:=fun (o:List UInt8) (ho:Zwa most P o)=>Zm9 ol od he (P:=P) (F:=F) (out:=o) (by simpa using h) (fun q hq=>hok q (by simp [hq])) ho
  rw [Zwa] at hf
  obtain ⟨hf1,hf2⟩:=hf
  have e:Zny l d (p::P)=pcB l d p++Zny l d P:=by simp [Zny,List.append_assoc]
  rw [e,List.foldl_cons,ZoT]
  by_cases c:p.2=0
  ·rw [if_pos c] at hf1
   have hpc:pcD out p=out++[UInt8.ofNat p.1]:=by rw [pcD,if_pos c]
   have hl:Ziy p=(p.1,0,0):=by rw [Ziy,if_pos c]
   have h256:p.1<256:=by have:=hp;simp only [Zlg] at this;omega
   have hc1:=hc.1
   rw [hl] at hc1
   rw [pcB,if_neg zO,List.append_nil,ZjZ,hl,ZHO,List.append_nil,hpc]
   rw [hpc] at hf2
   refine (Zpl ol (Zpm hc1) hc1).bnd ?_
   rw [if_pos h256,if_neg zO]
   exact ih _ hf2
  ·rw [if_neg c] at hf1
   have hpc:pcD out p=cpy out p.2 p.1:=by rw [pcD,if_neg c]
   have h257:=Zwb hp zO
   rw [pcB,if_pos zO,ZjZ,List.append_assoc,List.append_assoc,hpc]
   rw [hpc] at hf2
   refine (Zpl ol (Zpm hc.1) hc.1).bnd ?_
   rw [if_neg zO,if_neg zO,←List.append_assoc]
   exact (ZF7 od hp zO hc hf1.1 hf1.2).bnd (ih _ hf2)
theorem Zj2 {most:Nat}:∀ {P Q:List (Nat × Nat)} {out:List UInt8},Zwa most P out→Zwa most Q (P.foldl pcD out)→Zwa most (P++Q) out
 | [],Q,out,_,h=>h
 | p::P,Q,out,h1,h2=>⟨h1.1,Zj2 h1.2 h2⟩
theorem Zod:∀ {c out:List UInt8},(ZnW c).foldl pcD out=out++c
 | [],out=>by simp [ZnW]
 | x::c,out=>by
  rw [ZnW,List.map_cons,List.foldl_cons,←ZnW,Zod,pcD,if_pos rfl]
  simp
theorem Zu5 {most:Nat}:∀ {c out:List UInt8},out.length+c.length≤most→Zwa most (ZnW c) out
 | [],out,_=>trivial
 | x::c,out,h=>by
  rw [List.length_cons] at h
  rw [ZnW,List.map_cons,←ZnW]
  refine ⟨by rw [if_pos rfl];omega,Zu5 ?_⟩
  rw [pcD,if_pos rfl,List.length_append,List.length_singleton];omega
theorem Zwc {b:List UInt8} {p k:Nat} (hk:1≤k) (hkp:k≤p):∀ {n:Nat},p+n≤b.length→(∀ i,i<n→b.getD (p-k+i) 0=b.getD (p+i) 0)→cpy (b.take p) k n=b.take (p+n)
 | 0,_,_=>rfl
 | n+1,h,hi=>by
  have ih:=Zwc hk hkp (n:=n) zO fun i hh=>hi i zO
  have hl:(b.take (p+n)).length=p+n:=by rw [List.length_take];omega
  rw [Zn5,ih,hl,←Nat.add_assoc,ZgS (d:=0) zO]
  congr 2
  rw [←hi n zO,show p-k+n=p+n-k by omega]
  simp only [List.getD,List.getElem?_take]
  rw [if_pos zO]
theorem ZDH {b:List UInt8} {s p:Nat} (h:s≤p):b.take s++(b.take p).drop s=b.take p:=by
 have:=List.take_append_drop s (b.take p)
 rwa [List.take_take,Nat.min_eq_left h] at this
theorem Zym {b:List UInt8}:((Zv2 b).1.foldl pcD []=b.take (Zv2 b).2∧Zwa b.length (Zv2 b).1 [])∧(Zv2 b).2≤b.length:=by
 refine Zv3 (b:=b) (fun _ P s=>P.foldl pcD []=b.take s∧Zwa b.length P []) (fun p P s l k h hs hp ho hl=>?_) (fun p P s h=>h) ⟨rfl,trivial⟩
 rcases ho with ho | ⟨h1,h2,h3,h4,h5⟩
 ·simp only at ho;omega
 ·simp only at h1 h2 h3 h4 h5
  have hpl:p+l≤b.length:=by
   have:min 258 (b.length-p)≤b.length-p:=Nat.min_le_right _ _
   omega
  have hm:b.take s++(b.take p).drop s=b.take p:=ZDH hs
  have hml:(b.take p).length=p:=by rw [List.length_take];omega
  constructor
  ·rw [Zyu,List.foldl_append,List.foldl_append,h.1,Zod,hm,List.foldl_cons,List.foldl_nil,pcD,if_neg (by simp only;omega)]
   exact Zwc h3 h4 hpl h5
  ·rw [Zyu]
   refine Zj2 (Zj2 h.2 ?_) ?_
   ·rw [h.1]
    refine Zu5 ?_
    rw [←List.length_append,hm,hml];omega
   ·rw [List.foldl_append,h.1,Zod,hm]
    refine ⟨?_,trivial⟩
    rw [if_neg (by simp only;omega),hml]
    exact ⟨h4,hpl⟩
theorem Zna {b:List UInt8}:(ZjX b).foldl pcD []=b∧Zwa b.length (ZjX b) []:=by
 obtain ⟨⟨h1,h2⟩,h3⟩:=Zym (b:=b)
 constructor
 ·rw [ZjX,List.foldl_append,h1,Zod,List.take_append_drop]
 ·rw [ZjX]
  refine Zj2 h2 ?_
  rw [h1]
  refine Zu5 ?_
  rw [←List.length_append,List.take_append_drop]
  exact Nat.le_refl _
theorem ZEe:∀ s,s<288→fxL.getD s 0≠0:=by decide +kernel
theorem ZF8:∀ s,s<32→fxD.getD s 0≠0:=by decide +kernel
theorem ZIg {p:Nat × Nat} (hp:Zlg p):cdP fxL fxD p:=⟨ZEe _ (Zpd ZkH.1 hp).num,fun h=>ZF8 _ (Ztj ZkH.2 hp h).num⟩
theorem ZHP:ZpO=fxL∧Zqp=fxD:=⟨rfl,rfl⟩
theorem Zwd {most F f how:Nat} (hh:how<3) {X:List Nat} {o:List UInt8} (h:Rds (ZrO most F [] how) X o):Rds (ZrP most F (f+1) []) (ZbE 1 1++ZbE how 2++X) o:=by
 have e:ZbE 1 1++ZbE how 2=ZbE (1+2*how) 3:=by
  obtain rfl | rfl | rfl:how=0∨how=1∨how=2:=zO
  ·decide
  ·decide
  ·decide
 have e2:(1+2*how) % 2^3=1+2*how:=Nat.mod_eq_of_lt zO
 rw [e,ZrP,ZsO]
 refine Rds.bnd0 (a:=(true,o)) ?_ (by rw [if_pos rfl];exact Rds.ret)
 have hn:=ZjG (v:=1+2*how) (n:=3)
 rw [e2] at hn
 refine hn.bnd ?_
 rw [show (1+2*how) / 2=how by omega]
 refine h.bnd0 ?_
 rw [show decide ((1+2*how) % 2=1)=true from decide_eq_true zO]
 exact Rds.ret
theorem Zwe:∀ {X:List Nat} {j:Nat},(∀ x∈X,x<2)→Zeq X / 2^j % 2=X.getD j 0
 | [],j,_=>by simp [Zeq]
 | x::r,0,h=>by
  have:=h x zB
  simp only [Zeq,Nat.pow_zero,Nat.div_one,List.getD_cons_zero];omega
 | x::r,j+1,h=>by
  have:=h x zB
  rw [Zeq,Nat.pow_succ,Nat.mul_comm (2^j),←Nat.div_div_eq_div_mul,show (x+2*Zeq r) / 2=Zeq r by omega,Zwe fun y hy=>h y (by simp [hy])]
  simp
theorem Zyn {L:List Nat} (h2:∀ x∈L,x<2):∃ R,Zah (Zax L)=L++R:=by
 refine ⟨(Zah (Zax L)).drop L.length,?_⟩
 have hlen:L.length≤(Zah (Zax L)).length:=by rw [Zac,Za9];omega
 have:(Zah (Zax L)).take L.length=L:=by
  refine List.ext_getElem (by rw [List.length_take];omega) fun i h1 hi=>?_
  rw [List.getElem_take]
  have hb:i<8*(Zax L).length:=by rw [Za9];omega
  have hg:=ZlZ hb
  have hk:i / 8<(L.length+7) / 8:=by rw [Za9] at hb;omega
  have e1:(Zax L).getD (i / 8) 0=ZhY L (i / 8):=by rw [Zax];simp [List.getD,hk]
  have h8:∀ x∈(L.drop (8*(i / 8))).take 8,x<2:=fun x hx=>h2 x (List.mem_of_mem_drop (List.mem_of_mem_take hx))
  have hlt:Zeq ((L.drop (8*(i / 8))).take 8)<256:=by
   have:=ZmV h8
   have:2^((L.drop (8*(i / 8))).take 8).length≤2^8:=Nat.pow_le_pow_right zO (by rw [List.length_take];omega)
   omega
  have hm:Zeq ((L.drop (8*(i / 8))).take 8) % 2^8=Zeq ((L.drop (8*(i / 8))).take 8):=Nat.mod_eq_of_lt hlt
  have e2:((L.drop (8*(i / 8))).take 8).getD (i % 8) 0=L.getD i 0:=by
   simp only [List.getD,List.getElem?_take,List.getElem?_drop]
   rw [if_pos (Nat.mod_lt _ zO),Nat.div_add_mod]
  rw [Zlb,e1,ZhY,UInt8.toNat_ofNat',hm,Zwe h8,e2] at hg
  have g1:(Zah (Zax L)).getD i 0=(Zah (Zax L))[i]'zO:=by simp [List.getD,show i<(Zah (Zax L)).length by omega]
  have g2:L.getD i 0=L[i]:=by simp [List.getD,hi]
  rw [←g1,←g2,hg]
 conv=>rhs;arg 1;rw [←this]
 rw [List.take_append_drop]
theorem ZBk {most F:Nat} {L:List Nat} (h2:∀ x∈L,x<2) {o:List UInt8} (h:Rds (ZrP most F F []) L o) {R:List UInt8}:Zx2 F (Zax L++R) most=(o,(Zax L).length,0):=by
 obtain ⟨R0,hR⟩:=Zyn h2
 rw [Zx2,h (Zah (Zax L++R)) (R0++Zah R) 0 (Nat.zero_le _) (by rw [List.drop_zero,ZbD,hR,List.append_assoc]),ZBO,Nat.zero_add,Za9]
theorem Zwf {l d:List Nat} {P:List (Nat × Nat)}:∀ x∈Zny l d P,x<2:=fun x hx=>by
 rcases List.mem_append.1 hx with hx | hx
 ·obtain ⟨p,_,hx⟩:=List.mem_flatMap.1 hx
  exact ZHN x hx
 ·exact Zlh x hx
theorem ZHQ {b:List UInt8} (hb:b.length≤20000) {F:Nat} (hF:(ZjX b).length<F) {most:Nat} (hm:b.length≤most) {R:List UInt8}:Zx2 F (ZDF b++R) most=(b,(ZDF b).length,0):=by
 obtain ⟨F,rfl⟩:∃ f,F=f+1:=⟨F-1,by omega⟩
 refine ZBk (fun x hx=>?_) (Zwd zO ?_)
 ·rcases List.mem_append.1 hx with hx | hx
  ·rcases List.mem_append.1 hx with hx | hx <;> exact Zfn x hx
  ·exact Zwf x hx
 rw [ZrO,if_neg zO,if_pos rfl,ZHP.1,ZHP.2]
 have h:=Zm9 Zo6 Ztb (ZEe 256 zO) hF (fun p hp=>⟨Ziz hb p hp,ZIg (Ziz hb p hp)⟩) (ZrG hm (Zna (b:=b)).2)
 rw [(Zna (b:=b)).1] at h
 exact h
theorem Zwg {S:List Nat} {a v:Nat}:∀ {m:Nat},a+m≤S.length→(∀ i,i<m→S.getD (a+i) 0=v)→S.take (a+m)=S.take a++List.replicate m v
 | 0,_,_=>by simp
 | m+1,h,hv=>by
  rw [←Nat.add_assoc,ZgS (d:=0) zO,Zwg (m:=m) zO fun i hi=>hv i zO,List.replicate_succ',hv m zO,List.append_assoc]
theorem Zu6 {S:List Nat} (h15:∀ x∈S,x≤15) {a:Nat} (ha:a<S.length):lsN (tlA S a).1.1+(tlA S a).1.2.1=(tlA S a).2∧(tlA S a).1.2.2=lsB (tlA S a).1.1∧(tlA S a).1.2.1<2^lsB (tlA S a).1.1∧((tlA S a).1.1=16→0<a) ∧
  S.take (a+(tlA S a).2)=S.take a++List.replicate (tlA S a).2 (lsV (tlA S a).1.1 (S.take a)):=by
 obtain ⟨h1,h2,h3⟩:=ZiC (l:=S) (a:=a) (f:=S.length) (n:=1)
 rw [←tlN] at h1 h2 h3
 have h2:=h2 zO
 have hx:=ZjE h15 ha
 have hv:∀ m,m≤tlN S a→S.take (a+m)=S.take a++List.replicate m (S.getD a 0):=fun m hm=>Zwg zO fun i hi=>by
  by_cases c:i=0
  ·rw [c,Nat.add_zero]
  ·exact h3 i zO zO
 unfold tlA
 split
 ·rename_i c
  have e1:lsN 18=11:=rfl
  have e2:2^lsB 18=128:=rfl
  refine ⟨by simp only;rw [e1];omega,rfl,by simp only;rw [e2];omega,by simp,?_⟩
  have:=hv (min (tlN S a) 138) (Nat.min_le_left _ _)
  rw [c.1] at this
  exact this
 split
 ·rename_i c
  have e1:lsN 17=3:=rfl
  have e2:2^lsB 17=8:=rfl
  refine ⟨by simp only;rw [e1];omega,rfl,by simp only;rw [e2];omega,by simp,?_⟩
  have:=hv (min (tlN S a) 10) (Nat.min_le_left _ _)
  rw [c.1] at this
  exact this
 split
 ·rename_i c
  have e1:lsN 16=3:=rfl
  have e2:2^lsB 16=4:=rfl
  refine ⟨by simp only;rw [e1];omega,rfl,by simp only;rw [e2];omega,fun _=>c.1,?_⟩
  have:=hv (min (tlN S a) 6) (Nat.min_le_left _ _)
  have e:lsV 16 (S.take a)=S.getD a 0:=by
   rw [lsV,if_pos rfl,List.length_take,Nat.min_eq_left zO,c.2.1]
   simp only [List.getD,List.getElem?_take]
   rw [if_pos zO]
  rw [e]
  exact this
 ·have n1:lsN (S.getD a 0)=1:=by rw [lsN,if_neg zO,if_neg zO]
  have n2:lsB (S.getD a 0)=0:=by rw [lsB,if_neg zO,if_neg zO,if_neg zO]
  have n3:lsV (S.getD a 0) (S.take a)=S.getD a 0:=by rw [lsV,if_neg zO,if_neg zO]
  refine ⟨by simp only;rw [n1],by simp only;rw [n2],by simp only;rw [n2];omega,fun h=>by simp only at h;omega,?_⟩
  simp only
  rw [n3]
  exact hv 1 h1
theorem Zmj {S:List Nat}:∀ {f a:Nat} {T:List (Nat × Nat × Nat)},Zmr S f a T=T++Zmr S f a []
 | 0,a,T=>by simp [Zmr]
 | f+1,a,T=>by
  rw [Zmr,Zmr]
  split
  ·rw [Zmj,Zmj (T:=[]++[(tlA S a).1]),List.nil_append,List.append_assoc]
  ·simp
theorem ZBl {F S:List Nat} (oF:LnOk F) (h15:∀ x∈S,x≤15):∀ {f a g:Nat},a≤S.length→S.length≤a+f→f<g→(∀ s∈Zmr S f a [],F.getD s.1 0≠0)→Rds (lsT F S.length g (S.take a)) ((Zmr S f a []).flatMap (ZjZ F)) S
 | f,a,0,_,_,h,_=>by omega
 | 0,a,g+1,h1,h2,_,_=>by
  obtain rfl:a=S.length:=zO
  rw [Zmr,List.flatMap_nil,lsT,List.take_length,if_pos (Nat.le_refl _)]
  exact Rds.ret
 | f+1,a,g+1,h1,h2,h3,hc=>by
  have hl:(S.take a).length=a:=by rw [List.length_take];omega
  by_cases c:a<S.length
  ·obtain ⟨d1,d2,d3,d4,d5⟩:=Zu6 h15 c
   obtain ⟨o1,o2,o3⟩:=Zv6 h15 c
   have e:Zmr S (f+1) a []=(tlA S a).1::Zmr S f (a+(tlA S a).2) []:=by
    rw [Zmr,if_pos c,Zmj,List.nil_append];rfl
   rw [e] at hc ⊢
   have ih:=ZBl oF h15 (f:=f) (a:=a+(tlA S a).2) (g:=g) o3 zO zO fun s hs=>hc s (by simp [hs])
   have hs0:=hc _ (by simp:(tlA S a).1∈(tlA S a).1::Zmr S f (a+(tlA S a).2) [])
   rw [List.flatMap_cons,lsT,hl,if_neg zO,ZjZ,List.append_assoc]
   refine (Zpl oF (Zpm hs0) hs0).bnd ?_
   rw [if_neg (fun h=>by
    have h4:=d4 h.1
    have:=congrArg List.length h.2
    rw [hl,List.length_nil] at this
    omega)]
   refine Rds.bnd (a:=(tlA S a).2) ?_ ?_
   ·have:=ZrF (v:=lsN (tlA S a).1.1) (w:=(tlA S a).1.2.1) (n:=lsB (tlA S a).1.1)
    rw [Nat.mod_eq_of_lt d3,d1] at this
    rw [d2]
    exact this
   ·rw [if_neg zO,←d5]
    exact ih
  ·obtain rfl:a=S.length:=zO
   rw [Zmr,if_neg c,List.flatMap_nil,lsT,List.take_length,if_pos (Nat.le_refl _)]
   exact Rds.ret
def ZpW:List Nat→Nat→List Nat→List Nat
 | [],_,l=>l
 | x::Q,k,l=>ZpW Q (k+1) (l.set (Ziv.getD k 0) x)
theorem Zwh:∀ {Q:List Nat} {k:Nat} {l:List Nat},(∀ x∈Q,x≤7)→Rds (ZpN Q.length k l) (Q.flatMap fun x=>ZbE x 3) (ZpW Q k l)
 | [],k,l,_=>Rds.ret
 | x::Q,k,l,h=>by
  have hx:=h x zB
  rw [List.length_cons,ZpN,List.flatMap_cons,ZpW]
  have hn:=ZjG (v:=x) (n:=3)
  rw [Nat.mod_eq_of_lt zO] at hn
  exact hn.bnd (Zwh fun y hy=>h y (by simp [hy]))
theorem ZqH:∀ {Q:List Nat} {k x:Nat} {l:List Nat},ZpW (Q++[x]) k l=(ZpW Q k l).set (Ziv.getD (k+Q.length) 0) x
 | [],k,x,l=>rfl
 | y::Q,k,x,l=>by
  rw [List.cons_append,ZpW,ZqH,ZpW,List.length_cons,show k+1+Q.length=k+(Q.length+1) by omega]
def ZBP (F:List Nat) (j:Nat):List Nat:=(List.range 19).map fun i=>if i∈tlO.take j then F.getD i 0 else 0
theorem ZBm {F:List Nat} {j:Nat} (hj:j<19):(ZBP F j).set (tlO.getD j 0) (F.getD (tlO.getD j 0) 0)=ZBP F (j+1):=by
 have ht:=ZEd j hj
 refine List.ext_getElem (by simp [ZBP]) fun i h1 h2=>?_
 have hi:i<19:=by simpa [ZBP] using h2
 rw [List.getElem_set]
 simp only [ZBP,List.getElem_map,List.getElem_range]
 have e:tlO.take (j+1)=tlO.take j++[tlO.getD j 0]:=ZgS (d:=0) hj
 rw [e]
 by_cases c:tlO.getD j 0=i
 ·subst c
  rw [if_pos rfl,if_pos zB]
 ·rw [if_neg c]
  by_cases m:i∈tlO.take j
  ·rw [if_pos m,if_pos (List.mem_append_left _ m)]
  ·rw [if_neg m,if_neg (fun h=>by
    rcases List.mem_append.1 h with h | h
    ·exact m h
    ·exact c (List.mem_singleton.1 h).symm)]
theorem Zwi {F:List Nat}:∀ {j:Nat},j≤19→ZpW ((tdO F).take j) 0 (List.replicate 19 0)=ZBP F j
 | 0,_=>by
  rw [List.take_zero,ZpW,ZBP]
  simp only [List.take_zero,List.not_mem_nil,if_false]
  rfl
 | j+1,h=>by
  have hl:(tdO F).length=19:=by rw [tdO,List.length_map];rfl
  have hv:(tdO F).getD j 0=F.getD (tlO.getD j 0) 0:=by
   have h19:tlO.length=19:=rfl
   simp only [tdO,List.getD,List.getElem?_map,List.getElem?_eq_getElem (show j<tlO.length by omega),Option.map_some,Option.getD_some]
  rw [ZgS (d:=0) zO,ZqH,Zwi zO,hv,List.length_take,hl,Nat.min_eq_left zO,Nat.zero_add]
  exact ZBm zO
theorem Zpn {l:List Nat} {q:Nat}:∀ {n i:Nat},ZpU l q n≤i→i<n→l.getD i 0=0
 | 0,i,_,h=>by omega
 | n+1,i,h1,h2=>by
  rw [ZpU] at h1
  split at h1
  ·rename_i c
   by_cases e:i=n
   ·rw [e];exact c.2
   ·exact Zpn h1 zO
  ·omega
theorem ZF9:∀ i,i<19→∃ j,j<19∧tlO.getD j 0=i:=by decide
theorem ZGa {F:List Nat} (hF:F.length=19):ZBP F (Zdi (tdO F) 4).length=F:=by
 have hl:(tdO F).length=19:=by rw [tdO,List.length_map];rfl
 have hc:(Zdi (tdO F) 4).length=ZpU (tdO F) 4 19:=by
  rw [Zdi,List.length_take,hl]
  exact Nat.min_eq_left Zpf
 rw [hc]
 refine List.ext_getElem (by simp [ZBP,hF]) fun i h1 h2=>?_
 simp only [ZBP,List.getElem_map,List.getElem_range]
 have g:F.getD i 0=F[i]:=by simp [List.getD,h2]
 split
 ·exact g
 ·rename_i m
  obtain ⟨j,hj,rfl⟩:=ZF9 i zO
  have hv:(tdO F).getD j 0=F.getD (tlO.getD j 0) 0:=by
   have h19:tlO.length=19:=rfl
   simp only [tdO,List.getD,List.getElem?_map,List.getElem?_eq_getElem (show j<tlO.length by omega),Option.map_some,Option.getD_some]
  have hz:=Zpn (l:=tdO F) (q:=4) (n:=19) (i:=j) (by
   rcases Nat.lt_or_ge j (ZpU (tdO F) 4 19) with c | c
   ·exfalso
    refine m ?_
    rw [List.mem_iff_getElem]
    have h19:tlO.length=19:=rfl
    refine ⟨j,by rw [List.length_take];omega,?_⟩
    rw [List.getElem_take]
    simp [List.getD,show j<tlO.length by omega]
   ·exact c) hj
  rw [←g,←hv,hz]
theorem ZGb {F:List Nat} (hF:F.length=19) (h7:∀ x∈F,x≤7) (hf:fulN F=true):Rds (ZvC (Zdi (tdO F) 4).length) ((Zdi (tdO F) 4).flatMap fun x=>ZbE x 3) F:=by
 have hl:(tdO F).length=19:=by rw [tdO,List.length_map];rfl
 have hc:(Zdi (tdO F) 4).length≤19:=by have:=(Zc6 (l:=tdO F) (q:=4) zO).2;omega
 have hQ:∀ x∈Zdi (tdO F) 4,x≤7:=ZeY fun x hx=>by
  obtain ⟨y,hy,rfl⟩:=List.mem_map.1 hx
  rcases Nat.lt_or_ge y F.length with c | c
  ·have:F.getD y 0=F[y]:=by simp [List.getD,c]
   rw [this];exact h7 _ (List.getElem_mem _)
  ·have:F.getD y 0=0:=by simp [List.getD,c]
   omega
 have hfold:ZpW (Zdi (tdO F) 4) 0 (List.replicate 19 0)=F:=by
  have e:Zdi (tdO F) 4=(tdO F).take (Zdi (tdO F) 4).length:=by
   rw [Zdi,List.length_take,hl,Nat.min_eq_left Zpf]
  rw [e,Zwi hc]
  exact ZGa hF
 have h:=Zwh (k:=0) (l:=List.replicate 19 0) hQ
 rw [hfold] at h
 rw [ZvC]
 refine h.bnd0 ?_
 rw [if_pos hf]
 exact Rds.ret
theorem Zpo {l:List Nat} {q:Nat}:∃ n,l=Zdi l q++List.replicate n 0:=by
 refine ⟨l.length-ZpU l q l.length,?_⟩
 have e:l.drop (ZpU l q l.length)=List.replicate (l.length-ZpU l q l.length) 0:=by
  refine List.ext_getElem zB fun i h1 h2=>?_
  rw [List.length_drop] at h1
  rw [List.getElem_drop,List.getElem_replicate]
  have:=Zpn (l:=l) (q:=q) (n:=l.length) (i:=ZpU l q l.length+i) zO zO
  rw [←this]
  simp [List.getD,show ZpU l q l.length+i<l.length by omega]
 conv=>lhs;rw [←List.take_append_drop (ZpU l q l.length) l,e]
 rfl
theorem Zpp:∀ {n:Nat},Zav (List.replicate n 0)=0
 | 0=>rfl
 | n+1=>by
  rw [List.replicate_succ']
  rw [Zjs,Zpp]
  rfl
theorem ZDI {l:List Nat} {n k:Nat}:cn (l++List.replicate k 0) n=cn l n:=by
 unfold cn
 split
 ·rfl
 ·rename_i h
  rw [List.count_append,List.count_eq_zero_of_not_mem (a:=n) (fun hm=>h (List.mem_replicate.1 hm).2),Nat.add_zero]
theorem Zwj {l:List Nat} {k:Nat}:∀ {n:Nat},fr (l++List.replicate k 0) n=fr l n
 | 0=>rfl
 | n+1=>by rw [fr,fr,Zwj,ZDI]
theorem ZrH {l:List Nat} {k i:Nat} (h:i<l.length):(l++List.replicate k 0).getD i 0=l.getD i 0:=by simp [List.getD,List.getElem?_append,h]
theorem ZDJ {l:List Nat} {k i:Nat} (h:l.length≤i):(l++List.replicate k 0).getD i 0=0:=by
 rcases Nat.lt_or_ge i (l.length+k) with c | c
 ·simp only [List.getD]
  rw [List.getElem?_append_right h,List.getElem?_replicate,if_pos zO];rfl
 ·simp [List.getD,show l.length+k≤i from c]
theorem Zyo {l:List Nat} {k i:Nat} (h:i<l.length):ZaZ (l++List.replicate k 0) i=ZaZ l i:=by
 unfold ZaZ
 rw [ZrH h,Zwj,List.take_append_of_le_length zO]
theorem Zmk {l:List Nat} {q:Nat} {s:Nat × Nat × Nat} (h:l.getD s.1 0≠0):ZjZ (Zdi l q) s=ZjZ l s∧(Zdi l q).getD s.1 0≠0:=by
 obtain ⟨n,hn⟩:=Zpo (l:=l) (q:=q)
 obtain ⟨c,hc⟩:∃ c,c=Zdi l q:=⟨_,rfl⟩
 rw [←hc] at hn ⊢
 subst hn
 have hs:s.1<c.length:=by
  rcases Nat.lt_or_ge s.1 c.length with k | k
  ·exact k
  ·exact absurd (ZDJ k) h
 rw [ZrH hs] at h
 refine ⟨?_,h⟩
 have e1:(Za2 (c++List.replicate n 0)).getD s.1 0=(Za2 c).getD s.1 0:=by
  have a:(Za2 (c++List.replicate n 0)).getD s.1 0=ZaZ (c++List.replicate n 0) s.1:=by
   have:s.1<c.length+n:=zO
   simp [Za2,List.getD,this]
  have b:(Za2 c).getD s.1 0=ZaZ c s.1:=by simp [Za2,List.getD,hs]
  rw [a,b,Zyo hs]
 rw [ZjZ,ZjZ,ZrH hs,e1]
theorem ZBn {l d:List Nat} {q r:Nat} {p:Nat × Nat} (h:cdP l d p):pcB (Zdi l q) (Zdi d r) p=pcB l d p∧cdP (Zdi l q) (Zdi d r) p:=by
 have h1:=Zmk (q:=q) (s:=Ziy p) h.1
 by_cases c:0<p.2
 ·have h2:=Zmk (q:=r) (s:=Znx p) (h.2 c)
  exact ⟨by rw [pcB,pcB,if_pos c,if_pos c,h1.1,h2.1],h1.2,fun _=>h2.2⟩
 ·exact ⟨by rw [pcB,pcB,if_neg c,if_neg c,h1.1],h1.2,fun k=>absurd k c⟩
theorem Zwk {l d:List Nat} {q r:Nat} (he:l.getD 256 0≠0):∀ {P:List (Nat × Nat)},(∀ p∈P,cdP l d p)→Zny (Zdi l q) (Zdi d r) P=Zny l d P
 | [],_=>by rw [Zny,Zny,(Zmk (q:=q) (s:=(256,0,0)) he).1];rfl
 | p::P,h=>by
  have e:∀ a b,Zny a b (p::P)=pcB a b p++Zny a b P:=fun a b=>by simp [Zny,List.append_assoc]
  rw [e,e,(ZBn (h p zB)).1,Zwk he fun x hx=>h x (by simp [hx])]
theorem Zml {l:List Nat} {q:Nat}:Zav (Zdi l q)=Zav l:=by
 obtain ⟨n,hn⟩:=Zpo (l:=l) (q:=q)
 conv=>rhs;rw [hn]
 rw [Zjs,Zpp,Nat.add_zero]
theorem ZGc {l:List Nat} {q:Nat}:(Zdi l q).sum=l.sum:=by
 obtain ⟨n,hn⟩:=Zpo (l:=l) (q:=q)
 conv=>rhs;rw [hn]
 rw [List.sum_append]
 simp
theorem Zwl {l:List Nat} {q:Nat} (h:LnOk l):LnOk (Zdi l q):=⟨ZeY h.small,by
 have:(Zdi l q).length≤l.length:=by rw [Zdi,List.length_take];omega
 have:=h.len
 omega,by rw [Zml];exact h.kr⟩
theorem ZGd {x:Nat} (h:x≠16) {l:List Nat}:lsV x l=lsV x []:=by rw [lsV,lsV,if_neg h,if_neg h]
theorem Ztq {S:List Nat} (h15:∀ x∈S,x≤15) {x:Nat} (hx:x≠16):∀ {f a:Nat},S.length≤a+f→(∀ s∈Zmr S f a [],s.1=x)→∀ i,a≤i→i<S.length→S.getD i 0=lsV x []
 | 0,a,h,_,i,h1,h2=>by omega
 | f+1,a,h,hs,i,h1,h2=>by
  have c:a<S.length:=zO
  obtain ⟨d1,d2,d3,d4,d5⟩:=Zu6 h15 c
  obtain ⟨o1,o2,o3⟩:=Zv6 h15 c
  have e:Zmr S (f+1) a []=(tlA S a).1::Zmr S f (a+(tlA S a).2) []:=by
   rw [Zmr,if_pos c,Zmj,List.nil_append];rfl
  rw [e] at hs
  by_cases k:i<a+(tlA S a).2
  ·have hx1:=hs _ (by simp:(tlA S a).1∈(tlA S a).1::Zmr S f (a+(tlA S a).2) [])
   rw [hx1,ZGd hx] at d5
   have g:(S.take (a+(tlA S a).2)).getD i 0=S.getD i 0:=by
    simp only [List.getD,List.getElem?_take]
    rw [if_pos k]
   rw [←g,d5]
   have hl:(S.take a).length=a:=by rw [List.length_take];omega
   simp only [List.getD]
   rw [List.getElem?_append_right zO,List.getElem?_replicate,if_pos zO]
   rfl
  ·exact Ztq h15 hx (f:=f) (a:=a+(tlA S a).2) zO (fun s h=>hs s (List.mem_cons_of_mem _ h)) i zO h2
theorem ZqI {v:Nat}:∀ {l:List Nat},(∀ x∈l,x=v)→Zav l=l.length*wt v
 | [],_=>by rw [List.length_nil,Nat.zero_mul];rfl
 | x::l,h=>by
  have e:Zav (x::l)=wt x+Zav l:=rfl
  rw [e,h x zB,ZqI fun y hy=>h y (by simp [hy]),List.length_cons,Nat.succ_mul,Nat.add_comm]
theorem ZDK:∀ n,n<287→257≤n→∀ v,v<16→n*wt v≠32768:=by decide +kernel
theorem ZrI {c:List Nat} (h:(sgB c).length<2) {i j:Nat} (hi:i∈usB c) (hj:j∈usB c):i=j:=by
 rw [sgB,List.length_map] at h
 obtain ⟨u,hu⟩:∃ u,u=usB c:=⟨_,rfl⟩
 rw [←hu] at h hi hj
 match u,h,hi,hj with
 | [],_,hi,_=>simp at hi
 | [y],_,hi,hj=>rw [List.mem_singleton.1 hi,List.mem_singleton.1 hj]
 | y::z::r,h,_,_ =>
  simp only [List.length_cons] at h
  omega
theorem Zu7 {T:List (Nat × Nat × Nat)} {s:Nat × Nat × Nat} (hs:s∈T) (h:s.1<19):s.1∈usB (ctT T):=by
 refine ZiV.2 ⟨by rw [ctT,Zbw];exact h,?_⟩
 rw [ctT,Zli h]
 exact List.count_pos_iff.2 (List.mem_map_of_mem hs)
theorem Zu8 {l d:List Nat} (ol:LnOk l) (od:LnOk d) (l1:l.length=286) (hk:Zav l=32768):2≤(sgB (ctT (tls (tdL l d)))).length:=by
 rcases Nat.lt_or_ge (sgB (ctT (tls (tdL l d)))).length 2 with h | h
 ·exfalso
  have h15:∀ x∈tdL l d,x≤15:=fun x hx=>(List.mem_append.1 hx).elim (ZeY ol.small x) (ZeY od.small x)
  have k1:=Zc6 (l:=l) (q:=257) zO
  have hS:257≤(tdL l d).length:=by rw [tdL,List.length_append];omega
  obtain ⟨o1,-⟩:=Zv7 h15
  obtain ⟨S,hSe⟩:∃ S,S=tdL l d:=⟨_,rfl⟩
  rw [←hSe] at h h15 hS o1
  obtain ⟨f,hf⟩:∃ f,S.length=f+1:=⟨S.length-1,by omega⟩
  have hfirst:(tlA S 0).1∈tls S:=by
   rw [tls,hf,Zmr,if_pos zO,Zmj,List.nil_append]
   simp
  have hx:(tlA S 0).1.1≠16:=fun e=>by
   have:=(Zu6 h15 (a:=0) zO).2.2.2.1 e
   omega
  have hall:∀ s∈tls S,s.1=(tlA S 0).1.1:=fun s hs=>ZrI h (Zu7 hs (o1 s hs).num) (Zu7 hfirst (o1 _ hfirst).num)
  have hv:=Ztq h15 hx (f:=S.length) (a:=0) zO hall
  obtain ⟨v,hve⟩:∃ v,v=lsV (tlA S 0).1.1 []:=⟨_,rfl⟩
  rw [←hve] at hv
  have hL:∀ x∈Zdi l 257,x=v:=fun x hx=>by
   have hm:x∈S:=by rw [hSe,tdL];exact List.mem_append_left _ hx
   obtain ⟨i,hi,rfl⟩:=List.getElem_of_mem hm
   rw [←hv i (Nat.zero_le _) hi]
   simp [List.getD,hi]
  have hv16:v<16:=by
   have:=h15 (S.getD 0 0) (by
    have:S.getD 0 0=S[0]'zO:=by simp [List.getD,show 0<S.length by omega]
    rw [this];exact List.getElem_mem _)
   rw [hv 0 (Nat.le_refl _) zO] at this
   omega
  have hkr:=ZqI hL
  rw [Zml,hk] at hkr
  exact ZDK (Zdi l 257).length zO k1.1 v hv16 hkr.symm
 ·exact h
theorem ZDL {l d:List Nat} (ol:LnOk l) (od:LnOk d) (l1:l.length=286) (d1:d.length=30) (hk:Zav l=32768):fulN (tdF l d)=true∧(tdF l d).length=19∧(∀ x∈tdF l d,x≤7)∧∀ s∈tls (tdL l d),(tdF l d).getD s.1 0≠0:=by
 have h15:∀ x∈tdL l d,x≤15:=fun x hx=>(List.mem_append.1 hx).elim (ZeY ol.small x) (ZeY od.small x)
 obtain ⟨o1,o2⟩:=Zv7 h15
 have h2:=Zu8 ol od l1 (d:=d) hk
 have k1:=(Zc6 (l:=l) (q:=257) zO).2
 have k2:=(Zc6 (l:=d) (q:=1) zO).2
 have kl:(tdL l d).length≤320:=by rw [tdL,List.length_append];omega
 have hok:=Zv8 (T:=tls (tdL l d)) zO
 have hr:(sgB (ctT (tls (tdL l d)))).length≤2^7:=Nat.le_trans ZAF hok.room
 have hlen:(tdF l d).length=19:=by rw [tdF,Zcv,ctT,Zbw]
 have hcl:(ctT (tls (tdL l d))).length=19:=by rw [ctT,Zbw]
 refine ⟨?_,hlen,fun x hx=>?_,fun s hs=>?_⟩
 ·rw [fulN]
  exact decide_eq_true ⟨by omega,Zmb zO zO h2 hr⟩
 ·obtain ⟨i,hi,rfl⟩:=List.getElem_of_mem hx
  have:=(Zma zO hr (s:=i) zO).1
  rw [←tdF] at this
  simpa [List.getD,hi] using this
 ·have hn:=(o1 s hs).num
  have h1:=(Zma zO hr (s:=s.1) zO).2
  have h3:=(ZiV.1 (Zu7 hs hn)).2
  have:=h1.2 h3
  rw [←tdF] at this
  omega
theorem ZDM {X:List Nat}:Rds (ZjN X.length) X (Zeq X):=fun B R i hi hd=>by
 have hl:=congrArg List.length hd
 rw [List.length_drop,List.length_append] at hl
 rw [Zl3 hi,if_pos zO,hd,List.take_left]
theorem ZHR {u v w:Nat} (hu:u<32) (hv:v<32) (hw:w<16):Rds (ZjN 14) (ZbE u 5++(ZbE v 5++ZbE w 4)) (u+32*(v+32*w)):=by
 have h:=ZDM (X:=ZbE u 5++(ZbE v 5++ZbE w 4))
 rw [ZeU,ZeU,Zj0,Zj0,Zj0,Zar,Zar] at h
 simp only [List.length_append,Zar] at h
 rw [Nat.mod_eq_of_lt (show u<2^5 from hu),Nat.mod_eq_of_lt (show v<2^5 from hv),Nat.mod_eq_of_lt (show w<2^4 from hw)] at h
 exact h
theorem ZGe {l d:List Nat} (ol:LnOk l) (od:LnOk d) (l1:l.length=286) (d1:d.length=30) (hk:Zav l=32768) (he:l.getD 256 0≠0) (hd:d.sum≤1∨Zav d=32768):Rds ZsN (Zmi l d) (Zdi l 257,Zdi d 1):=by
 obtain ⟨f1,f2,f3,f4⟩:=ZDL ol od l1 d1 hk
 have oF:LnOk (tdF l d):=⟨fun x hx=>by have:=f3 x hx;omega,by omega,by
  have:=f1
  rw [fulN,decide_eq_true_eq] at this
  omega⟩
 have k1:=Zc6 (l:=l) (q:=257) zO
 have k2:=Zc6 (l:=d) (q:=1) zO
 have lV:(tdO (tdF l d)).length=19:=by rw [tdO,List.length_map];rfl
 have k3:=Zc6 (l:=tdO (tdF l d)) (q:=4) zO
 have h15:∀ x∈tdL l d,x≤15:=fun x hx=>(List.mem_append.1 hx).elim (ZeY ol.small x) (ZeY od.small x)
 have hS:(tdL l d).length=(Zdi l 257).length+(Zdi d 1).length:=by rw [tdL,List.length_append]
 have ht:=ZBl oF h15 (f:=(tdL l d).length) (a:=0) (g:=400) (Nat.zero_le _) zO zO f4
 rw [List.take_zero] at ht
 have hr:=ZGb f2 f3 f1
 have e:Zmi l d=(ZbE ((Zdi l 257).length-257) 5++(ZbE ((Zdi d 1).length-1) 5++ZbE ((Zdi (tdO (tdF l d)) 4).length-4) 4))++((Zdi (tdO (tdF l d)) 4).flatMap (fun x=>ZbE x 3)++(tls (tdL l d)).flatMap (ZjZ (tdF l d))):=by
  rw [Zmi];simp only [List.append_assoc]
 obtain ⟨u,hu⟩:∃ u,u=(Zdi l 257).length-257:=⟨_,rfl⟩
 obtain ⟨v,hv⟩:∃ u,u=(Zdi d 1).length-1:=⟨_,rfl⟩
 obtain ⟨w,hw⟩:∃ u,u=(Zdi (tdO (tdF l d)) 4).length-4:=⟨_,rfl⟩
 rw [e,←hu,←hv,←hw,ZsN]
 refine (ZHR (u:=u) (v:=v) (w:=w) zO zO zO).bnd ?_
 have a1:(u+32*(v+32*w)) % 32+257=(Zdi l 257).length:=zO
 have a2:(u+32*(v+32*w)) / 32 % 32+1=(Zdi d 1).length:=zO
 have a3:(u+32*(v+32*w)) / 1024+4=(Zdi (tdO (tdF l d)) 4).length:=zO
 rw [a1,a2,a3,if_neg zO,←hS]
 refine hr.bnd ?_
 refine Rds.bnd0 (a:=tdL l d) ht ?_
 have t1:(tdL l d).take (Zdi l 257).length=Zdi l 257:=by rw [tdL,List.take_left]
 have t2:(tdL l d).drop (Zdi l 257).length=Zdi d 1:=by rw [tdL,List.drop_left]
 rw [t1,t2,if_pos]
 ·exact Rds.ret
 ·have h1:=(Zmk (q:=257) (s:=(256,0,0)) he).2
  rw [ZuJ,fulN,ZDb,fulN,Zml,Zml,ZGc]
  simp only [Bool.and_eq_true,Bool.or_eq_true,decide_eq_true_eq]
  refine ⟨⟨h1,by omega,hk⟩,?_⟩
  rcases hd with h | h
  ·exact .inl h
  ·exact .inr ⟨by omega,h⟩
theorem Ztr {F:Nat→Nat}:∀ {l:List Nat},(∀ s∈l,F s≤1)→(l.map F).sum≤l.length
 | [],_=>Nat.le_refl _
 | x::l,h=>by
  have h1:=h x zB
  have:=Ztr (F:=F) (l:=l) fun s hs=>h s (by simp [hs])
  rw [List.map_cons,List.sum_cons,List.length_cons];omega
theorem ZDN {c:List Nat} {q:Nat} (hok:CtOk c q):(Zc5 c q).sum≤1∨Zav (Zc5 c q)=32768:=by
 have hr:(sgB c).length≤2^q:=Nat.le_trans ZAF hok.room
 by_cases h:2≤(sgB c).length
 ·exact .inr (Zmb hok.pos hok.most h hr)
 ·left
  have h1:∀ s∈usB c,Ziw s (Zh7 c q)≤1:=fun s hs=>by
   have hs:=(ZiV.1 hs).1
   have:=ZDu (most:=q) (show (sgB c).length<2 by omega) hs
   rwa [ZAE hs] at this
  have:=Ztr h1
  rw [Zc5,ZjV (p:=fun s=>decide (0<c.getD s 0)) fun s hs=>by
   rw [Zh7,if_pos zO,sgB,Zlf,List.count_eq_zero_of_not_mem (fun k=>by simp only [decide_eq_false_iff_not] at hs;exact hs (ZiV.1 k).2)]]
  rw [show (List.range c.length).filter (fun s=>decide (0<c.getD s 0))=usB c from rfl]
  have hl:(usB c).length=(sgB c).length:=by rw [sgB,List.length_map]
  omega
theorem Zpq {n:Nat} {S:List Nat} {i:Nat} (hi:i<n) (h:i∈S):i∈usB (ctN n S):=by
 refine ZiV.2 ⟨by rw [Zbw];exact hi,?_⟩
 rw [Zli hi]
 exact List.count_pos_iff.2 h
theorem Zpr {c:List Nat} {q:Nat} (hok:CtOk c q) {i:Nat} (h:i∈usB c):(Zc5 c q).getD i 0≠0:=by
 have hr:(sgB c).length≤2^q:=Nat.le_trans ZAF hok.room
 obtain ⟨h1,h2⟩:=ZiV.1 h
 have:=(Zma hok.pos hr h1).2.2 h2
 omega
theorem ZBo {c:List Nat} {q:Nat} (hok:CtOk c q) (h:2≤(sgB c).length):Zav (Zc5 c q)=32768:=Zmb hok.pos hok.most h (Nat.le_trans ZAF hok.room)
theorem Zps {P:List (Nat × Nat)}:256∈usB (Zlj P):=Zpq zO zB
theorem ZBp {P:List (Nat × Nat)} (hok:∀ p∈P,Zlg p):2≤(sgB (Zlj P)).length:=by
 rcases Nat.lt_or_ge (sgB (Zlj P)).length 2 with h | h
 ·exfalso
  cases P with
  | nil =>
   have h0:0∈usB (Zlj []):=Zpq zO zB
   have:=ZrI h h0 Zps
   omega
  | cons p P =>
   have hp:=hok p zB
   have hn:=(Zpd (l:=List.replicate 286 0) (by rw [List.length_replicate];exact Nat.le_refl _) hp).num
   rw [List.length_replicate] at hn
   have h0:(Ziy p).1∈usB (Zlj (p::P)):=Zpq hn (List.mem_append_left _ (List.mem_append_left _ (List.mem_map_of_mem (f:=fun p=>(Ziy p).1) (List.mem_cons_self ..))))
   have:=ZrI h h0 Zps
   by_cases c:p.2=0
   ·have e:(Ziy p).1=p.1:=by rw [Ziy,if_pos c]
    have:=hp
    simp only [Zlg] at this
    omega
   ·have:=Zwb hp zO
    omega
 ·exact h
theorem ZIh {P:List (Nat × Nat)} (hP:P.length≤20000) (hok:∀ p∈P,Zlg p):∀ p∈P,cdP (bsL P) (bsD P) p:=fun p hp=>by
 have ho:=hok p hp
 have hn:=(Zpd (l:=List.replicate 286 0) (by rw [List.length_replicate];exact Nat.le_refl _) ho).num
 rw [List.length_replicate] at hn
 refine ⟨Zpr (Zmh hP) (Zpq hn ?_),fun h0=>?_⟩
 ·refine List.mem_append_left _ (List.mem_append_left _ ?_)
  exact List.mem_map_of_mem (f:=fun p=>(Ziy p).1) hp
 ·have hd:=(Ztj (d:=List.replicate 30 0) (by rw [List.length_replicate];exact Nat.le_refl _) ho h0).num
  rw [List.length_replicate] at hd
  refine Zpr (Zob hP) (Zpq hd ?_)
  exact List.mem_map_of_mem (f:=fun p=>(Znx p).1) (List.mem_filter.2 ⟨hp,by simpa using h0⟩)
theorem ZHS {b:List UInt8} (hb:b.length≤20000) {F:Nat} (hF:(ZjX b).length<F) {most:Nat} (hm:b.length≤most) {R:List UInt8}:Zx2 F (ZDG b++R) most=(b,(ZDG b).length,0):=by
 have hP:=ZiA hb
 have hok:=Ziz hb
 have hte:=Zna (b:=b)
 have hfit:=ZrG hm hte.2
 rw [ZDG,Zyl]
 obtain ⟨P,hPe⟩:∃ P,P=ZjX b:=⟨_,rfl⟩
 rw [←hPe] at hP hok hte hfit hF ⊢
 obtain ⟨ol,od,l1,d1⟩:=Zoc hP
 have hk:Zav (bsL P)=32768:=ZBo (Zmh hP) (ZBp hok)
 have he:(bsL P).getD 256 0≠0:=Zpr (Zmh hP) Zps
 have hcd:=ZIh hP hok
 have hfw:(bsD P).sum≤1∨Zav (bsD P)=32768:=ZDN (Zob hP)
 obtain ⟨t1,t2⟩:=Zj1 ol od l1 d1
 obtain ⟨l,hl⟩:∃ l,l=bsL P:=⟨_,rfl⟩
 obtain ⟨d,hd⟩:∃ d,d=bsD P:=⟨_,rfl⟩
 rw [←hl,←hd] at hcd ⊢
 rw [←hl] at ol l1 hk he t2
 rw [←hd] at od d1 hfw t2
 obtain ⟨F,rfl⟩:∃ f,F=f+1:=⟨F-1,by omega⟩
 have h:=Zm9 (Zwl (q:=257) ol) (Zwl (q:=1) od) (Zmk (q:=257) (s:=(256,0,0)) he).2 hF (fun p hp=>⟨hok p hp,(ZBn (hcd p hp)).2⟩) hfit
 rw [hte.1,Zwk he hcd] at h
 have hb2:Rds (ZrO most (F+1) [] 2) (Zmi l d++Zny l d P) b:=by
  rw [ZrO,if_neg zO,if_neg zO,if_pos rfl]
  exact (ZGe ol od l1 d1 hk he hfw).bnd h
 refine ZBk (fun x hx=>?_) (Zwd (how:=2) zO hb2)
 rcases List.mem_append.1 hx with hx | hx
 ·rcases List.mem_append.1 hx with hx | hx <;> exact Zfn x hx
 ·rcases List.mem_append.1 hx with hx | hx
  ·exact t2 x hx
  ·exact Zwf x hx
theorem ZBq:∀ {c:List UInt8},Rds (ZvB c.length) (Zah c) c
 | []=>Rds.ret
 | x::c=>by
  have e:Zah (x::c)=ZbE x.toNat 8++Zah c:=rfl
  rw [e,List.length_cons,ZvB]
  have hn:=ZjG (v:=x.toNat) (n:=8)
  rw [Nat.mod_eq_of_lt x.toNat_lt] at hn
  refine hn.bnd (Rds.bnd0 (a:=c) ZBq ?_)
  rw [UInt8.ofNat_toNat]
  exact Rds.ret
theorem ZDO {u:Nat} (hu:u<2) {c:List UInt8} (hc:c.length≤65535):Zah (ZrR u c)=ZbE u 3++(ZbE 0 5++(ZbE c.length 16++(ZbE (65535-c.length) 16++Zah c))):=by
 rw [ZF2 (show c.length<65536 by omega),ZF2 (show 65535-c.length<65536 by omega)]
 have e1:ZdA (UInt8.ofNat u)=ZbE u 3++ZbE 0 5:=by
  obtain rfl | rfl:u=0∨u=1:=zO
  ·decide
  ·decide
 rw [ZrR]
 simp only [Zah,List.flatMap_cons,e1,List.append_assoc]
theorem ZBr {most F:Nat} {out:List UInt8} {u:Nat} (hu:u<2) {c:List UInt8} (hc:c.length≤65535) (hm:out.length+c.length≤most) {B R:List Nat} {j:Nat} (hj:8*j≤B.length) (hd:B.drop (8*j)=Zah (ZrR u c)++R) :
  (ZsO most F out).run B (8*j) = .ok (decide (u % 2=1),out++c) (8*(j+5+c.length)):=by
 rw [ZDO hu hc] at hd
 have hl:=congrArg List.length hd
 simp only [List.length_drop,List.length_append,Zar,Zac] at hl
 have h3:=ZjG (v:=u) (n:=3) B (ZbE 0 5++(ZbE c.length 16++(ZbE (65535-c.length) 16++Zah c))++R) (8*j) hj (by rw [hd];simp only [List.append_assoc])
 rw [Nat.mod_eq_of_lt (show u<2^3 by omega),Zar] at h3
 rw [ZsO,Zal,h3]
 simp only [BR.bnd]
 rw [Zal,ZrO,if_pos zO,ZDa,BT.run]
 rw [show (8*j+3+7) / 8*8-(8*j+3)=5 by omega]
 have hb:Rds ((ZjN 5).bnd fun _=>(ZjN 16).bnd fun n=>(ZjN 16).bnd fun m=>if n+m≠65535 then .err 3 else (ZvB n).bnd fun bs=>if most<out.length+n then .err 4 else .ret (out++bs)) (ZbE 0 5++(ZbE c.length 16++(ZbE (65535-c.length) 16++Zah c))) (out++c):=by
  refine ZjG.bnd ?_
  have n1:=ZjG (v:=c.length) (n:=16)
  rw [Nat.mod_eq_of_lt (show c.length<2^16 by omega)] at n1
  refine n1.bnd ?_
  have n2:=ZjG (v:=65535-c.length) (n:=16)
  rw [Nat.mod_eq_of_lt (show 65535-c.length<2^16 by omega)] at n2
  refine n2.bnd ?_
  rw [if_neg zO]
  refine ZBq.bnd0 ?_
  rw [if_neg zO]
  exact Rds.ret
 rw [hb B R (8*j+3) zO (by rw [←List.drop_drop,hd];simp only [List.append_assoc];rw [List.drop_append_of_le_length (by rw [Zar];exact Nat.le_refl _),List.drop_of_length_le (by rw [Zar];exact Nat.le_refl _),List.nil_append])]
 simp only [BR.bnd,BT.run,List.length_append,Zar,Zac]
 congr 1
 omega
theorem Zts {b:List UInt8}:∀ {n k:Nat},∃ T,stK b (k+n)=stK b k++T
 | 0,k=>⟨[],by simp⟩
 | n+1,k=>by
  obtain ⟨T,hT⟩:=Zts (b:=b) (n:=n) (k:=k)
  exact ⟨T++ZrR 0 ((b.drop (65535*(k+n))).take 65535),by rw [←Nat.add_assoc,stK,hT,List.append_assoc]⟩
theorem Zwm {b R:List UInt8} {F Q most:Nat} (hm:b.length≤most) (hQ:Q=(b.length-1) / 65535):∀ {n k f:Nat},k+n=Q→n<f→(ZrP most F f (b.take (65535*k))).run (Zah (stL b++R)) (8*(stK b k).length) = .ok b (8*(stL b).length)
 | n,k,0,_,h=>by omega
 | 0,k,f+1,hk,_=>by
  obtain rfl:k=Q:=zO
  have hs:stL b=stK b k++ZrR 1 (b.drop (65535*k)):=by rw [stL,←hQ]
  have hlen:65535*k≤b.length:=zO
  have hr:=ZBr (most:=most) (F:=F) (out:=b.take (65535*k)) (u:=1) zO (c:=b.drop (65535*k)) (by rw [List.length_drop];omega) (by rw [List.length_take,List.length_drop];omega) (B:=Zah (stL b++R)) (R:=Zah R) (j:=(stK b k).length) (by rw [Zac,List.length_append,hs,List.length_append];omega) (by
   rw [hs,List.append_assoc,ZbD,←Zac,List.drop_left,ZbD])
  rw [ZrP,Zal,hr]
  simp only [BR.bnd]
  rw [if_pos (by decide),List.take_append_drop,BT.run,hs,List.length_append,ZgI]
  congr 1
  omega
 | n+1,k,f+1,hk,hf=>by
  have hlen:65535*(k+1)≤b.length:=zO
  obtain ⟨T,hT⟩:=Zts (b:=b) (n:=n) (k:=k+1)
  have hc:((b.drop (65535*k)).take 65535).length=65535:=by rw [List.length_take,List.length_drop];omega
  have hs:stL b=stK b k++(ZrR 0 ((b.drop (65535*k)).take 65535)++(T++ZrR 1 (b.drop (65535*Q)))):=by
   rw [stL,←hQ,show Q=k+1+n by omega,hT,stK]
   simp only [List.append_assoc]
  have hr:=ZBr (most:=most) (F:=F) (out:=b.take (65535*k)) (u:=0) zO (c:=(b.drop (65535*k)).take 65535) zO (by rw [List.length_take];omega) (B:=Zah (stL b++R)) (R:=Zah (T++ZrR 1 (b.drop (65535*Q))++R)) (j:=(stK b k).length) (by rw [Zac,List.length_append,hs,List.length_append];omega) (by
   rw [hs,List.append_assoc,ZbD,←Zac,List.drop_left,List.append_assoc,ZbD])
  have ht:b.take (65535*k)++(b.drop (65535*k)).take 65535=b.take (65535*(k+1)):=by
   rw [show 65535*(k+1)=65535*k+65535 by omega,List.take_add]
  rw [ZrP,Zal,hr]
  simp only [BR.bnd]
  rw [if_neg (by decide),ht,hc]
  have h1:(stK b (k+1)).length=(stK b k).length+(ZrR 0 ((b.drop (65535*k)).take 65535)).length:=by rw [stK,List.length_append]
  rw [ZgI,hc] at h1
  have hl:(stK b k).length+5+65535=(stK b (k+1)).length:=zO
  rw [hl]
  exact Zwm hm hQ (n:=n) (k:=k+1) (f:=f) zO zO
termination_by n=>n
decreasing_by omega
theorem ZHT {b:List UInt8} {F:Nat} (hF:b.length<F) {most:Nat} (hm:b.length≤most) {R:List UInt8}:Zx2 F (stL b++R) most=(b,(stL b).length,0):=by
 have h:=Zwm (R:=R) (F:=F) hm rfl (n:=(b.length-1) / 65535) (k:=0) (f:=F) zO zO
 rw [Nat.mul_zero,List.take_zero,show (stK b 0).length=0 from rfl,Nat.mul_zero] at h
 rw [Zx2,h,ZBO]
 congr 2
 omega
theorem ZBs {b:List UInt8} (hb:b.length≤20000) {how:Int}:(ZBg b how).1.length≤10*b.length+4000:=by
 have hf:=ZjY hb
 have hP:(ZjX b).length≤b.length:=by rw [ZjX,List.length_append,ZnW,List.length_map,List.length_drop];omega
 have h5:=ZqG (b:=b)
 have h1:=Zpj (b:=b)
 have h2:=Zpk (b:=b)
 have h3:(Zyv (ZjX b)).length≤78*(ZjX b).length+30000:=by
  rw [Zyv,Zny]
  simp only [List.length_append,Zar]
  have h1:=Zme Zo6 Ztb ZkH.1 ZkH.2 (Ziz hb)
  have h2:=ZfV Zo6 (Ztk ZkH.1)
  omega
 have h4:(Zyl (ZjX b)).length≤78*(ZjX b).length+30000:=by
  obtain ⟨ol,od,l1,d1⟩:=Zoc (ZiA hb)
  have t1:=(Zj1 ol od l1 d1).1
  rw [Zyl,Zny]
  simp only [List.length_append,Zar]
  have h1:=Zme ol od zO zO (Ziz hb)
  have h2:=ZfV ol (Ztk zO)
  omega
 unfold ZBg
 split
 ·simp only;omega
 split
 ·simp only;omega
 split
 ·simp only;omega
 ·simp
theorem ZHU {G:Gh} {w:World} {es:Option Nat} {x:Value} (h:Rd G w (.sc (.slice none 0 0)) x):Rd G w (.sl true es []) x:=by
 simp only [Rd] at h ⊢
 subst h
 exact ⟨none,0,0,[],rfl,rfl,Nat.le_refl _,rfl,by simp,fun _=>rfl,fun a h=>by simp at h⟩
theorem Con.nil1 {P:Program} [Tabs P] {f:Nat} {es:Option Nat} {ins:List AV} {out:AV} (h:Con P f (.sl true es []::ins) out):Con P f (.sc (.slice none 0 0)::ins) out:=fun w S vs ht hl hr=>h w S vs ht hl (by
 obtain ⟨v,r,e,h1,h2⟩:=hr
 exact ⟨v,r,e,ZHU h1,h2⟩)
theorem ZIi:stL [97]=[1,1,0,254,255,97]:=by decide +kernel
theorem ZIj:ZDF []=[3,0]:=by decide +kernel
theorem ZrJ [Tabs Tryz.prog]:Con Tryz.prog Zfv [] (boo true):=by
 refine Con.of' mix Tryz.func5 rfl Tryz.ntmps5 Zkk Zkl zB rfl rfl ?_
 unfold ZfF
 have p1:=Zto false [97] zB
 have p2:=(Ztp true [] zB).nil1
 rw [ZIi] at p1
 rw [ZIj] at p2
 have e1:([97]:List UInt8).map u8=[.sc (.int .u8 97)]:=rfl
 have e2:([1,1,0,254,255,97]:List UInt8).map u8=[.sc (.int .u8 1),.sc (.int .u8 1),.sc (.int .u8 0),.sc (.int .u8 254),.sc (.int .u8 255),.sc (.int .u8 97)]:=rfl
 have e3:([3,0]:List UInt8).map u8=[.sc (.int .u8 3),.sc (.int .u8 0)]:=rfl
 rw [e1,e2] at p1
 rw [e3] at p2
 have u1:ZrN (AV.sc (.int .u8 1))=1:=rfl
 have u2:ZrN (AV.sc (.int .u8 0))=0:=rfl
 have u3:ZrN (AV.sc (.int .u8 254))=254:=rfl
 have u4:ZrN (AV.sc (.int .u8 255))=255:=rfl
 have u5:ZrN (AV.sc (.int .u8 97))=97:=rfl
 have u6:ZrN (AV.sc (.int .u8 3))=3:=rfl
 repeat (first|refine xS ?_|exact xT)
 refine Zaz _ (.inl ⟨rfl,p1⟩) ?_
 repeat (first|refine xS ?_|exact xT)
 refine Zaz _ (.inl ⟨rfl,p2⟩) ?_
 repeat (first|refine xR (ja6 @u1 @u2 @u3 @u4 @u5 @u6) ?_|exact xU (ja6 @u1 @u2 @u3 @u4 @u5 @u6))
def ZrS:List AV→List AV→Prop
 | [],[]=>True
 | x::xs,y::ys=>(x=y∨x = .junk)∧ZrS xs ys
 | _,_=>False
theorem ZBt {c:Nat}:∀ {xs ys:List AV},ZrS xs ys→AV.gl.glL c ys→AV.gl.glL c xs
 | [],[],_,h=>h
 | x::xs,y::ys,hb,h=>by
  simp only [AV.gl.glL] at h ⊢
  refine ⟨?_,ZBt hb.2 h.2⟩
  rcases hb.1 with rfl | rfl
  ·exact h.1
  ·simp [AV.gl]
 | [],_::_,hb,_=>hb.elim
 | _::_,[],hb,_=>hb.elim
theorem ZBu {G:Gh} {w:World}:∀ {xs ys:List AV} {vs:List Value},ZrS xs ys→RdL G w ys vs→RdL G w xs vs
 | [],[],_,_,h=>h
 | x::xs,y::ys,vs,hb,h=>by
  simp only [RdL] at h ⊢
  obtain ⟨v,r,rfl,h1,h2⟩:=h
  refine ⟨v,r,rfl,?_,ZBu hb.2 h2⟩
  rcases hb.1 with rfl | rfl
  ·exact h1
  ·simp [Rd]
 | [],_::_,_,hb,_=>hb.elim
 | _::_,[],_,hb,_=>hb.elim
theorem SWp.blur {P:Program} [Tabs P] {Q:Ex→ASt→Prop} {st:ASt} {c:SCode} (id g:Nat) {nl:Bool} {cells:List AV} (cells':List AV) (hid:st.hp id=some (g,.row nl cells)) (hb:ZrS cells' cells)
  (h:SWp P c Q ⟨st.tm,ZbA st.hp id (some (g,.row nl cells')),st.gc,st.N⟩):SWp P c Q st:=by
 intro hm code hc w0 M Z G a w hR
 have hH2:=ZoN hR.heap hid (ZBt hb (hR.heap.gl _ _ _ _ hid).2) (by
   intro e;subst e
   cases cells' with
   | nil=>rfl
   | cons x xs=>exact hb.elim) (fun vs hvs=>ZBu hb hvs)
 exact h hm code hc w0 M Z G a w ⟨hR.keep,hH2,hR.size,hR.tm,hR.gl,hR.defers,hR.fr,hR.ext,hR.lc,hR.lc1,hR.tabs⟩
def stR (nb:Bool) (B:List Nat) (most g n i e:Nat):List AV:=[.sl nb none (B.map nA),int (i:Int),.own 1001 g none 0 n,int (most:Int),int (e:Int)]
def stI (nb:Bool) (B:List Nat) (most i e:Nat) (out:List UInt8):List AO:=[.row false (stR nb B most 0 out.length i e),.row (nl0 out.length) (out.map u8)]
def stO (g:Nat) (nb:Bool) (B:List Nat) (most i e:Nat) (out:List UInt8):List (Nat × Nat × AO):=[(1000,0,.row false (stR nb B most g out.length i e)),(1001,g,.row (nl0 out.length) (out.map u8))]
theorem Ztt {nb:Bool} {B:List Nat} {most i e:Nat} {out:List UInt8}:∀ m cells,AO.row m cells∈stI nb B most i e out→AV.gl.glL 1 cells:=by
 intro m cells h
 simp only [stI,List.mem_cons,AO.row.injEq,List.not_mem_nil,or_false] at h
 obtain ⟨-,rfl⟩ | ⟨-,rfl⟩:=h
 ·simp only [stR,AV.gl.glL,AV.gl,int,and_true]
  refine ⟨Zag _ _ Zaa,?_⟩
  simp
 ·exact Zag _ _ ZaD
def jkR (e:Nat):List AV:=[.junk,.junk,.junk,.junk,int (e:Int)]
def BH4:=ja4 @stI.eq_1 @stR.eq_1 @stO.eq_1 iR
theorem Zbz [Tabs Tryz.prog] (nb:Bool) (B:List Nat) (most i e:Nat) (out:List UInt8) (is:Bool) (x:Nat) :
  HCon Tryz.prog Zat [.op 1000 0 0,boo is,int (x:Int)] (stI nb B most i e out) (.tup []) (stO 0 nb B most i (if is=true∧e=0 then x else e) out) 1:=by
 refine HCon.of' mix Tryz.func49 rfl Tryz.ntmps49 ZhJ ZhK zB (by simp [AV.gl,AV.gl.glL,int,boo]) Ztt ?_
 unfold ZdY
 cases is with
 | false =>
  rw [if_neg zB]
  repeat (first|refine zR BH4 ?_|exact zU BH4)
 | true =>
  by_cases c:e=0
  ·subst c
   rw [if_pos ⟨rfl,rfl⟩]
   repeat (first|refine zR BH4 ?_|exact zU BH4)
  ·have d:decide ((e:Int)=0)=false:=decide_eq_false zO
   rw [if_neg (fun h=>c h.2)]
   repeat (first|refine zR (ja5 @stI.eq_1 @stR.eq_1 @stO.eq_1 iR @d) ?_|exact zU (ja5 @stI.eq_1 @stR.eq_1 @stO.eq_1 iR @d))
def nuS (B:List Nat) (n i e:Nat):Nat × Nat × Nat:=if e≠0 then (0,i,e) else if i+n≤B.length then (Zeq ((B.drop i).take n),i+n,0) else (0,i,2)
theorem ZgJ [Tabs Tryz.prog] (nb:Bool) (B:List Nat) (hBl:B.length≤400000) (hB:∀ x∈B,x<2) (most i e:Nat) (hi:i≤B.length) (out:List UInt8) (n:Nat) (hn:n≤24) :
  HCon Tryz.prog Zai [.op 1000 0 0,int (n:Int)] (stI nb B most i e out) (int ((nuS B n i e).1:Int)) (stO 0 nb B most (nuS B n i e).2.1 (nuS B n i e).2.2 out) 1:=by
 refine HCon.of' mix Tryz.func23 rfl Tryz.ntmps23 Zgk Zgl zB (by simp [AV.gl,AV.gl.glL,int]) Ztt ?_
 unfold ZcS
 by_cases c:e=0
 ·subst c
  by_cases c2:i+n≤B.length
  ·rw [show nuS B n i 0=(Zeq ((B.drop i).take n),i+n,0) by rw [nuS,if_neg zB,if_pos c2]]
   have d:decide ((B.length:Int)-(i:Int)<(n:Int))=false:=decide_eq_false zO
   have hN:=ZsG nb ((B.drop i).take n) (by rw [List.length_take];omega) (fun x hx=>hB x (List.mem_of_mem_drop (List.mem_of_mem_take hx)))
   have hdt:(B.take (i+n)).drop i=(B.drop i).take n:=by rw [List.drop_take];congr 1;omega
   have e1:(i:Int)+(n:Int)-(n:Int)=(i:Int):=zO
   obtain ⟨j,hj⟩:∃ j,j=i+n:=⟨_,rfl⟩
   have ej:(i:Int)+(n:Int)=(j:Int):=zO
   have ej2:(j:Int)-(n:Int)=(i:Int):=zO
   rw [←hj] at hdt ⊢
   have hjl:j≤B.length:=zO
   repeat (first|refine zR (ja7 @stI.eq_1 @stR.eq_1 @d iR @ej @ej2 @hdt) ?_|exact zU (ja7 @stI.eq_1 @stR.eq_1 @d iR @ej @ej2 @hdt))
   refine Zaz _ (.inl ⟨by simp only [AV.free,AV.free.freeL,Zaa,Bool.and_self],hN⟩) ?_
   repeat (first|refine zR (ja3 @stO.eq_1 @stR.eq_1 iR) ?_|exact zU (ja3 @stO.eq_1 @stR.eq_1 iR))
  ·rw [show nuS B n i 0=(0,i,2) by rw [nuS,if_neg zB,if_neg c2]]
   have d:decide ((B.length:Int)-(i:Int)<(n:Int))=true:=decide_eq_true zO
   repeat (first|refine zR (ja5 @stI.eq_1 @stR.eq_1 @stO.eq_1 @d iR) ?_|exact zU (ja5 @stI.eq_1 @stR.eq_1 @stO.eq_1 @d iR))
 ·rw [show nuS B n i e=(0,i,e) by rw [nuS,if_pos c]]
  have d:decide ((e:Int)=0)=false:=decide_eq_false zO
  repeat (first|refine zR (ja5 @stI.eq_1 @stR.eq_1 @stO.eq_1 @d iR) ?_|exact zU (ja5 @stI.eq_1 @stR.eq_1 @stO.eq_1 @d iR))
theorem ZBv [Tabs Tryz.prog] (v n:Nat) (hv:v<32768) (hn:n≤15):Con Tryz.prog ZgW [.sc (.int .i64 (v:Int)),.sc (.int .i64 (n:Int))] (.sl (nl0 n) none ((ZiT v n).map nA)):=by
 refine Con.of' mix Tryz.func133 rfl Tryz.ntmps133 ZlN ZlO zB rfl (by simp only [AV.free,Zaa]) ?_
 unfold Zg5
 repeat (first|refine zS ?_|exact zT)
 refine SWp.adopt 5 none yT ?_
 refine SWp.loop (α:=Nat × Nat × Nat) (fun x=>mk 22 x.2.2 [(0,.sc (.int .i64 (v:Int))),(5,.own 5 x.2.1 none 0 x.1),(6,int ((n:Int)-1-x.1))] [(5,x.2.1,.row (nl0 x.1) (((ZiT v n).take x.1).map nA))])
  (fun x=>x.1≤n) (fun x=>n-x.1) (0,0,1) (Nat.zero_le _) (Zaj rfl ?_ ?_ ?_) ?_
 ·exact Nat.le_refl _
 iterate 2 (case _=>(first|exact yU (ja2 @Zbh @List.take_zero.{0})|refine yR (ja2 @Zbh @List.take_zero.{0}) ?_))
 rintro ⟨k,g,c⟩ hk -
 simp only at hk
 have hlk:((ZiT v n).take k).length=k:=by rw [List.length_take,Zbv];omega
 repeat (first|refine zS ?_|exact zT)
 refine SWp.cond rfl (fun h=>?_) (fun h=>?_)
 ·simp only [decide_eq_true_eq] at h
  have hkn:k<n:=zO
  have hs:=ZsJ (v:=v) hkn
  obtain ⟨j,hj⟩:∃ j,j=n-1-k:=⟨_,rfl⟩
  have hj2:(n:Int)-1-(k:Int)=(j:Int):=zO
  have hj3:j≤15:=zO
  have hjw:IntKind.u64.wrap (j:Int)=(j:Int):=Zbg zO zO
  obtain ⟨y,hy⟩:∃ y,y=v / 2^j:=⟨_,rfl⟩
  rw [←hj,←hy] at hs
  have hyv:y<32768:=by rw [hy];exact Nat.lt_of_le_of_lt (Nat.div_le_self _ _) hv
  repeat (first|refine zR (ja5 @hj2 @hjw hy.symm @hlk iR) ?_|exact zU (ja5 @hj2 @hjw hy.symm @hlk iR))
  refine At.of (k+1,c,c+1) (by simp only;omega) (by simp only;omega) rfl rfl (Nat.le_refl _) ?_ ?_
  ·(first|exact yT|refine yS ?_)
   omega
  ·(first|exact yU (ja3 @hs @Zbi @nA.eq_1)|refine yR (ja3 @hs @Zbi @nA.eq_1) ?_)
 ·simp only [decide_eq_false_iff_not] at h
  obtain rfl:k=n:=zO
  have ht:(ZiT v k).take k=ZiT v k:=List.take_of_length_le (by rw [Zbv];exact Nat.le_refl _)
  have hl:=Zbv (v:=v) (n:=k)
  rw [ht]
  repeat (first|refine zR (ja2 iR @hl) ?_|exact zU (ja2 iR @hl))
def hd (a b:List Nat):Bool:=decide (a.length≤b.length)&&decide (∀ i,i<a.length→a.getD i 0=b.getD i 0)
theorem ZqJ [Tabs Tryz.prog] (nla nlb:Bool) (a b:List Nat) (ha:a.length≤1000) (hb:b.length≤1000000):Con Tryz.prog ZdK [.sl nla none (a.map nA),.sl nlb none (b.map nA)] (boo (hd a b)):=by
 refine Con.of' mix Tryz.func134 rfl Tryz.ntmps134 Zk1 Zk2 zB (by simp only [AV.free,AV.free.freeL,Zaa,Bool.and_self]) rfl ?_
 unfold ZgA
 by_cases c1:b.length<a.length
 ·have d1:decide ((b.length:Int)<(a.length:Int))=true:=decide_eq_true zO
  have hh:hd a b=false:=by unfold hd;rw [decide_eq_false zO];rfl
  repeat (first|refine zR (ja2 @d1 @hh) ?_|exact zU (ja2 @d1 @hh))
 have d1:decide ((b.length:Int)<(a.length:Int))=false:=decide_eq_false zO
 repeat (first|refine zR @d1 ?_|exact zU @d1)
 refine SWp.loop (α:=Nat) (fun k=>mk 26 0 [(0,.sl nla none (a.map nA)),(1,.sl nlb none (b.map nA)),(5,int k)] [])
  (fun k=>k≤a.length∧∀ i,i<k→a.getD i 0=b.getD i 0) (fun k=>a.length-k) 0 ⟨Nat.zero_le _,fun _ h=>by omega⟩ (Zaj rfl ?_ ?_ ?_) ?_
 ·exact Nat.le_refl _
 iterate 2 (case _=>(first|exact yT|refine yS ?_))
 rintro k ⟨hk,hall⟩ -
 repeat (first|refine zS ?_|exact zT)
 refine SWp.cond rfl (fun h=>?_) (fun h=>?_)
 ·simp only [decide_eq_true_eq] at h
  have hka:k<a.length:=zO
  have hkb:k<b.length:=zO
  by_cases e:a.getD k 0=b.getD k 0
  ·have de:decide (((a.getD k 0:Nat):Int)=((b.getD k 0:Nat):Int))=true:=decide_eq_true zO
   repeat (first|refine zR (ja2 iR @de) ?_|exact zU (ja2 iR @de))
   refine At.of (k+1) ⟨by omega,fun i hi=>?_⟩ zO rfl rfl (Nat.le_refl _) ?_ ?_
   ·by_cases e2:i=k
    ·subst e2;exact e
    ·exact hall i zO
   iterate 2 (case _=>(first|exact yT|refine yS ?_))
  ·have de:decide (((a.getD k 0:Nat):Int)=((b.getD k 0:Nat):Int))=false:=decide_eq_false zO
   have hh:hd a b=false:=by
    unfold hd
    rw [decide_eq_false (p:=∀ i,i<a.length→a.getD i 0=b.getD i 0) (fun h=>e (h k hka))];simp
   repeat (first|refine zR (ja3 iR @de @hh) ?_|exact zU (ja3 iR @de @hh))
 ·simp only [decide_eq_false_iff_not] at h
  obtain rfl:k=a.length:=zO
  have hh:hd a b=true:=by unfold hd;rw [decide_eq_true zO,decide_eq_true hall];rfl
  repeat (first|refine zR @hh ?_|exact zU @hh)
def ZpX (B:List Nat):Nat→Nat
 | 0=>0
 | n+1=>2*ZpX B n+B.getD n 0
theorem Zu9 {B:List Nat} (h:∀ x∈B,x<2) (i:Nat):B.getD i 0<2:=by
 by_cases hi:i<B.length
 ·have:B.getD i 0=B[i]:=by simp [List.getD,List.getElem?_eq_getElem hi]
  rw [this];exact h _ (List.getElem_mem hi)
 ·simp [List.getD,List.getElem?_eq_none (by omega:B.length≤i)]
theorem ZBw {B:List Nat} (h:∀ x∈B,x<2):∀ n,ZpX B n<2^n
 | 0=>by simp [ZpX]
 | n+1=>by
  have h1:=ZBw h n
  have h2:=Zu9 h n
  simp only [ZpX,Nat.pow_succ];omega
theorem Zwn {B:List Nat} (h:∀ x∈B,x<2) (j:Nat):∀ d,ZpX B (j+d) / 2^d=ZpX B j
 | 0=>by simp
 | d+1=>by
  have h1:=Zwn h j d
  have h2:=Zu9 h (j+d)
  rw [Nat.pow_succ,Nat.mul_comm,←Nat.div_div_eq_div_mul]
  have:ZpX B (j+(d+1)) / 2=ZpX B (j+d):=by show (2*ZpX B (j+d)+B.getD (j+d) 0) / 2=_;omega
  rw [this,h1]
theorem Zoe {c n i:Nat} (h:i<n):(ZiT c n).getD i 0=c / 2^(n-1-i) % 2:=by simp [ZiT,List.getD,h]
theorem ZBx {B:List Nat} (h:∀ x∈B,x<2) {c n:Nat} (hc:c<2^n):(∀ i,i<n→c / 2^(n-1-i) % 2=B.getD i 0)↔c=ZpX B n:=by
 constructor
 ·intro ha
  have key:∀ j,j≤n→c / 2^(n-j)=ZpX B j:=by
   intro j
   induction j with
   | zero=>intro _;rw [Nat.sub_zero,Nat.div_eq_of_lt hc];rfl
   | succ j ih =>
    intro hj
    have ih:=ih zO
    have:=ha j zO
    rw [show n-1-j=n-(j+1) by omega] at this
    rw [show n-j=(n-(j+1))+1 by omega,Nat.pow_succ,←Nat.div_div_eq_div_mul] at ih
    simp only [ZpX];omega
  have:=key n (Nat.le_refl _)
  simpa using this
 ·rintro rfl i hi
  have h1:=Zwn h (i+1) (n-1-i)
  rw [show i+1+(n-1-i)=n by omega] at h1
  rw [h1]
  have:=Zu9 h i
  show (2*ZpX B i+B.getD i 0) % 2=_
  omega
theorem ZHV {B:List Nat} (h:∀ x∈B,x<2) {c n:Nat} (hc:c<2^n) (hn:n≤B.length):hd (ZiT c n) B=decide (c=ZpX B n):=by
 unfold hd
 rw [Zbv,decide_eq_true hn,Bool.true_and]
 refine decide_eq_decide.2 ?_
 rw [←ZBx h hc]
 constructor
 ·intro ha i hi;have:=ha i hi;rwa [Zoe hi] at this
 ·intro ha i hi;rw [Zoe hi];exact ha i hi
theorem ZBy {B:List Nat} (h:∀ x∈B,x<2) {c n m:Nat} (hc:c<2^m) (hn:n≤B.length):hd (B.take n) (ZiT c m)=decide (n≤m∧c / 2^(m-n)=ZpX B n):=by
 unfold hd
 rw [Zbv,List.length_take,Nat.min_eq_left hn]
 by_cases hm:n≤m
 ·rw [decide_eq_true hm,Bool.true_and]
  refine decide_eq_decide.2 ?_
  have hc2:c / 2^(m-n)<2^n:=by
   rw [Nat.div_lt_iff_lt_mul (Nat.pow_pos zO),←Nat.pow_add,show n+(m-n)=m by omega];exact hc
  rw [←ZBx h hc2]
  have e:∀ i,i<n→c / 2^(m-n) / 2^(n-1-i) % 2=c / 2^(m-1-i) % 2:=fun i hi=>by
   rw [Nat.div_div_eq_div_mul,←Nat.pow_add,show m-n+(n-1-i)=m-1-i by omega]
  have e2:∀ i,i<n→(B.take n).getD i 0=B.getD i 0:=fun i hi=>by simp only [List.getD];rw [List.getElem?_take,if_pos hi]
  constructor
  ·intro ha
   refine ⟨hm,fun i hi=>?_⟩
   have:=ha i hi
   rw [e2 i hi,Zoe zO] at this
   rw [e i hi,this]
  ·rintro ⟨_,ha⟩ i hi
   rw [e2 i hi,Zoe zO,←e i hi,ha i hi]
 ·rw [decide_eq_false hm,Bool.false_and,decide_eq_false (fun h=>hm h.1)]
def bgn (l B:List Nat) (n k:Nat):Bool:=(List.range k).any fun j=>decide (l.getD j 0≠0)&&hd (B.take n) (ZiT (ZaZ l j) (l.getD j 0))
theorem ZDP {l B:List Nat} {n k:Nat}:bgn l B n (k+1)=(bgn l B n k || (decide (l.getD k 0≠0)&&hd (B.take n) (ZiT (ZaZ l k) (l.getD k 0)))):=by
 simp [bgn,List.range_succ,List.any_append]
theorem ZGf {l:List Nat} (h15:∀ x∈l,x≤15) (hK:Zav l≤32768) {B:List Nat} (hB:∀ x∈B,x<2) {n v:Nat} (hn:n≤B.length) (hn15:n≤15) (hv:v=ZpX B n) (hF:fr l n+cn l n≤v):bgn l B n l.length=decide (v*2^(15-n)<Zav l):=by
 have p15:∀ j,j<l.length→l.getD j 0≤15:=fun j hj=>by
  have:l.getD j 0=l[j]:=by simp [List.getD,List.getElem?_eq_getElem hj]
  rw [this];exact h15 _ (List.getElem_mem hj)
 by_cases c:v*2^(15-n)<Zav l
 ·rw [decide_eq_true c]
  have key:∀ d,n+d≤15→(fr l (n+d)+cn l (n+d))*2^(15-(n+d))≤v*2^(15-n)∨∃ m,n<m∧m≤15∧fr l m≤v*2^(m-n)∧v*2^(m-n)<fr l m+cn l m:=by
   intro d
   induction d with
   | zero=>intro _;exact .inl (Nat.mul_le_mul_right _ hF)
   | succ d ih =>
    intro hd
    rcases ih zO with h | h
    ·by_cases q:(fr l (n+(d+1))+cn l (n+(d+1)))*2^(15-(n+(d+1)))≤v*2^(15-n)
     ·exact .inl q
     ·right
      have e:v*2^(15-n)=v*2^(n+(d+1)-n)*2^(15-(n+(d+1))):=by
       rw [Nat.mul_assoc,←Nat.pow_add];congr 2;omega
      refine ⟨n+(d+1),by omega,hd,?_,?_⟩
      ·have h2:fr l (n+(d+1))*2^(15-(n+(d+1)))≤v*2^(15-n):=by
        have:fr l (n+(d+1))=2*(fr l (n+d)+cn l (n+d)):=rfl
        have hp:=ZvJ (n:=n+d) zO
        rw [this,Nat.mul_comm 2,Nat.mul_assoc]
        rw [hp] at h
        exact h
       rw [e] at h2
       exact Nat.le_of_mul_le_mul_right h2 (Nat.pow_pos zO)
      ·have h2:v*2^(15-n)<(fr l (n+(d+1))+cn l (n+(d+1)))*2^(15-(n+(d+1))):=zO
       rw [e] at h2
       exact Nat.lt_of_mul_lt_mul_right h2
    ·exact .inr h
  rcases key (15-n) zO with h | ⟨m,hm1,hm2,hm3,hm4⟩
  ·rw [show n+(15-n)=15 by omega,Nat.sub_self,Nat.pow_zero,Nat.mul_one,←ZDj h15] at h
   omega
  ·have hin:=Zrq (l:=l) (m:=m) (j:=v*2^(m-n)-fr l m) zO zO
   obtain ⟨s,hs⟩:∃ s,s=(Zer l l.length m).getD (v*2^(m-n)-fr l m) 0:=⟨_,rfl⟩
   rw [←hs] at hin
   obtain ⟨a1,a2,a3⟩:=hin
   have hlt:=Zrr h15 hK a1 a2 zO hm2
   unfold bgn
   rw [List.any_eq_true]
   refine ⟨s,List.mem_range.2 a1,?_⟩
   rw [a2,ZBy hB hlt hn,decide_eq_true zO,Bool.true_and]
   refine decide_eq_true ⟨by omega,?_⟩
   rw [a3,show fr l m+(v*2^(m-n)-fr l m)=v*2^(m-n) by omega,Nat.mul_div_cancel _ (Nat.pow_pos zO),hv]
 ·rw [decide_eq_false c]
  unfold bgn
  rw [List.any_eq_false]
  intro j hj
  have hj:=List.mem_range.1 hj
  by_cases h0:l.getD j 0=0
  ·simp only [h0];simp
  ·have hlt:=Zrr h15 hK hj rfl h0 (p15 j hj)
   rw [decide_eq_true h0,Bool.true_and,ZBy hB hlt hn]
   intro hd
   obtain ⟨a1,a2⟩:=of_decide_eq_true hd
   apply c
   obtain ⟨b1,b2,b3⟩:=Zrp hj rfl h0
   have h4:=ZDi (l:=l) h15 (p15 j hj)
   have h5:v*2^(l.getD j 0-n)≤ZaZ l j:=by rw [hv,←a2];exact Nat.div_mul_le_self _ _
   have e:v*2^(15-n)=v*2^(l.getD j 0-n)*2^(15-l.getD j 0):=by
    have:=p15 j hj
    rw [Nat.mul_assoc,←Nat.pow_add];congr 2;omega
   rw [e]
   refine Nat.lt_of_le_of_lt (Nat.mul_le_mul_right _ h5) (Nat.lt_of_lt_of_le (Nat.mul_lt_mul_of_pos_right ?_ (Nat.pow_pos zO)) h4)
   omega
def Zmm (nb:Bool) (B:List Nat) (r:Nat × Nat × Nat):AV:=if r.2.2=2 then .sc (.slice none 0 0) else .sl nb none ((B.drop r.2.1).map nA)
def BH5:=ja2 iR @Zmm.eq_1
set_option maxHeartbeats 1000000 in
theorem Zyp [Tabs Tryz.prog] (l:List Nat) (hl:l.length≤320) (h15:∀ x∈l,x≤15) (hK:Zav l≤32768) (nl em nb:Bool) (B:List Nat) (hBl:B.length≤1000) (hB:∀ x∈B,x<2) (r:Nat × Nat × Nat) (hr:nxt l B 15 0 0=r) :
  Con Tryz.prog Zge [.sl nl none (l.map nA),.sl em none ((Za2 l).map nA),.sl nb none (B.map nA)] (.agg [.sc (.int .i64 (r.1:Int)),Zmm nb B r,.sc (.int .i64 (r.2.2:Int))]):=by
 obtain ⟨C,hC⟩:∃ C,C=Za2 l:=⟨_,rfl⟩
 have hCl:C.length=l.length:=by rw [hC,Zel]
 have hCs:∀ s,s<l.length→C.getD s 0=ZaZ l s:=fun s hs=>by
  rw [hC];simp only [Za2,List.getD,List.getElem?_map,List.getElem?_range hs,Option.map_some,Option.getD_some]
 rw [←hC]
 refine Con.of' mix Tryz.func96 rfl Tryz.ntmps96 ZkV ZkW zB (by simp only [AV.free,AV.free.freeL,Zaa,Bool.and_self]) ?_ ?_
 ·have:(Zmm nb B r).free=true:=by unfold Zmm;split <;> simp only [AV.free,Zaa]
  simp only [AV.free,AV.free.freeL,this,Bool.and_self]
 unfold Zgx
 repeat (first|refine zS ?_|exact zT)
 refine SWp.loop (α:=Nat × Nat) (fun x=>mk 73 1 [(0,.sl nl none (l.map nA)),(1,.sl em none (C.map nA)),(2,.sl nb none (B.map nA)),(6,.op 6 0 0),(7,int ((x.1+1:Nat):Int))] [(6,0,.row false [.sc (.int .i64 0),.sc (.slice none 0 0),.sc (.int .i64 0)])])
  (fun x=>x.1≤15∧x.1≤B.length∧x.2=ZpX B x.1∧fr l (x.1+1)≤2*x.2∧nxt l B (15-x.1) x.1 x.2=r) (fun x=>15-x.1) (0,0) ⟨Nat.zero_le _,Nat.zero_le _,rfl,by simp [fr,cn],hr⟩ (Zaj rfl ?_ ?_ ?_) ?_
 ·exact Nat.le_refl _
 iterate 2 (case _=>(first|exact yT|refine yS ?_))
 rintro ⟨p,v⟩ ⟨hp,hpB,hv,hF,hx⟩ -
 simp only at hp hpB hv hF hx
 obtain ⟨n,hn⟩:∃ n,n=p+1:=⟨_,rfl⟩
 rw [←hn] at hF
 rw [←hn]
 repeat (first|refine zS ?_|exact zT)
 refine SWp.cond rfl (fun h=>?_) (fun h=>?_)
 ·simp only [decide_eq_true_eq] at h
  have hn15:n≤15:=zO
  obtain ⟨f,hf⟩:∃ f,15-p=f+1:=⟨14-p,by omega⟩
  rw [hf,nxt,←hn] at hx
  by_cases c0:B.length<n
  ·rw [if_pos zO] at hx
   have d0:decide ((B.length:Int)<(n:Int))=true:=decide_eq_true zO
   subst hx
   repeat (first|refine zR (ja2 @d0 @Zmm.eq_1) ?_|exact zU (ja2 @d0 @Zmm.eq_1))
  have d0:decide ((B.length:Int)<(n:Int))=false:=decide_eq_false zO
  rw [if_neg zO] at hx
  have hw:2*v+B.getD p 0=ZpX B n:=by rw [hn,hv];rfl
  rw [hw] at hx
  have hwl:=ZBw hB n
  have hfw:fr l n≤ZpX B n:=by
   have:2*v≤ZpX B n:=zO
   omega
  obtain ⟨w,hwd⟩:∃ w,w=ZpX B n:=⟨_,rfl⟩
  rw [←hwd] at hx hwl hfw
  clear hw
  repeat (first|refine zR @d0 ?_|exact zU @d0)
  refine SWp.loop (α:=Nat) (fun k=>mk 73 1 [(0,.sl nl none (l.map nA)),(1,.sl em none (C.map nA)),(2,.sl nb none (B.map nA)),(6,.op 6 0 0),(7,int (n:Int)),(8,boo (bgn l B n k)),(9,int k)] [(6,0,.row false [.sc (.int .i64 0),.sc (.slice none 0 0),.sc (.int .i64 0)])])
   (fun k=>k≤l.length∧∀ j,j<k→l.getD j 0=n→ZaZ l j≠w) (fun k=>l.length-k) 0 ⟨Nat.zero_le _,fun _ h=>by omega⟩ (Zaj rfl ?_ ?_ ?_) ?_
  ·exact Nat.le_refl _
  ·(first|exact yT|refine yS ?_)
   rfl
  ·(first|exact yT|refine yS ?_)
  rintro k ⟨hk,hno⟩ -
  repeat (first|refine zS ?_|exact zT)
  refine SWp.cond rfl (fun h=>?_) (fun h=>?_)
  ·simp only [decide_eq_true_eq] at h
   have hkl:k<l.length:=zO
   have hbs:=ZDP (l:=l) (B:=B) (n:=n) (k:=k)
   have hx15:l.getD k 0≤15:=by
    have:l.getD k 0=l[k]:=by simp [List.getD,List.getElem?_eq_getElem hkl]
    rw [this];exact h15 _ (List.getElem_mem hkl)
   have hCk:=hCs k hkl
   by_cases cz:l.getD k 0=0
   ·have dz:decide (((l.getD k 0:Nat):Int)=0)=true:=decide_eq_true zO
    rw [decide_eq_false (by simpa using cz),Bool.false_and,Bool.or_false] at hbs
    repeat (first|refine zR (ja2 iR @dz) ?_|exact zU (ja2 iR @dz))
    refine At.of (k+1) ⟨by omega,fun j hj hjn=>?_⟩ zO rfl rfl (Nat.le_refl _) ?_ ?_
    ·by_cases e:j=k
     ·subst e;omega
     ·exact hno j zO hjn
    iterate 2 (case _=>(first|exact yU @hbs|refine yR @hbs ?_))
   ·have dz:decide (((l.getD k 0:Nat):Int)=0)=false:=decide_eq_false zO
    have hlt:=Zrr h15 hK hkl rfl cz hx15
    have hcin:=Zrp hkl rfl cz
    have hsat:=ZuL (l:=l) rfl cz hkl (Nat.le_refl _)
    rw [decide_eq_true (by simpa using cz),Bool.true_and] at hbs
    obtain ⟨x,hxd⟩:∃ x,x=l.getD k 0:=⟨_,rfl⟩
    obtain ⟨c,hc⟩:∃ c,c=ZaZ l k:=⟨_,rfl⟩
    rw [←hxd] at hx15 hlt hcin hsat hbs dz cz
    rw [←hc] at hlt hcin hCk hbs
    have hp2:2^x≤32768:=ZaR (n:=x) (m:=15) hx15
    have hrow:=ZBv c x zO hx15
    have hrl:=Zbv (v:=c) (n:=x)
    have hhd1:=ZqJ (nl0 x) nb (ZiT c x) B zO zO
    have hhd2:=ZqJ nb (nl0 x) (B.take n) (ZiT c x) (by rw [List.length_take];omega) zO
    have hp1:=ZBy hB (n:=n) hlt zO
    obtain ⟨R,hR⟩:∃ R,R=ZiT c x:=⟨_,rfl⟩
    rw [←hR] at hrow hhd1 hhd2 hbs
    have hfr1:AV.free.freeL [.sl (nl0 x) none (R.map nA),.sl nb none (B.map nA)]=true:=by simp only [AV.free,AV.free.freeL,Zaa,Bool.and_self]
    have hfr2:AV.free.freeL [.sl nb none ((B.take n).map nA),.sl (nl0 x) none (R.map nA)]=true:=by simp only [AV.free,AV.free.freeL,Zaa,Bool.and_self]
    repeat (first|refine zR (ja4 iR hxd.symm @dz @hCk) ?_|exact zU (ja4 iR hxd.symm @dz @hCk))
    refine Zaz _ (.inl ⟨rfl,hrow⟩) ?_
    have fin2:(x=n→c≠w)→∀ j,j<k+1→l.getD j 0=n→ZaZ l j≠w:=fun hne j hj hjn=>by
     by_cases e:j=k
     ·subst e;rw [←hc];exact hne zO
     ·exact hno j zO hjn
    by_cases cx:x=n
    ·have dx:decide ((x:Int)=(n:Int))=true:=decide_eq_true zO
     have hh:=ZHV hB (c:=c) (n:=x) hlt zO
     rw [←hR,cx,←hwd] at hh
     rw [hh] at hhd1
     by_cases cw:c=w
     ·rw [decide_eq_true cw] at hhd1
      have hres:r=(k,n,0):=by
       rw [cx,cw] at hcin
       rw [cx] at hsat
       have hkk:w*2^(15-n)<Zav l:=Nat.lt_of_lt_of_le (Nat.mul_lt_mul_of_pos_right zO (Nat.pow_pos zO)) (ZDi h15 hn15)
       rw [if_neg zO,if_pos zO,hcin.2.1,hsat] at hx
       exact hx.symm
      subst hres
      repeat (first|refine zR (ja3 iR hxd.symm @dx) ?_|exact zU (ja3 iR hxd.symm @dx))
      refine Zaz _ (.inl ⟨hfr1,hhd1⟩) ?_
      repeat (first|refine zR BH5 ?_|exact zU BH5)
     ·rw [decide_eq_false cw] at hhd1
      cases hbb:bgn l B n k with
      | true =>
       rw [hbb] at hbs
       repeat (first|refine zR (ja4 iR hxd.symm @dx @hbb) ?_|exact zU (ja4 iR hxd.symm @dx @hbb))
       refine Zaz _ (.inl ⟨hfr1,hhd1⟩) ?_
       repeat (first|refine zR (ja2 iR @hbb) ?_|exact zU (ja2 iR @hbb))
       refine At.of (k+1) ⟨by omega,fin2 fun _=>cw⟩ zO rfl rfl (Nat.le_refl _) ?_ ?_
       iterate 2 (case _=>(first|exact yU (ja2 @hbs @Bool.true_or)|refine yR (ja2 @hbs @Bool.true_or) ?_))
      | false =>
       rw [hbb,Bool.false_or] at hbs
       repeat (first|refine zR (ja4 iR hxd.symm @dx @hbb) ?_|exact zU (ja4 iR hxd.symm @dx @hbb))
       refine Zaz _ (.inl ⟨hfr1,hhd1⟩) ?_
       repeat (first|refine zR (ja2 iR @hbb) ?_|exact zU (ja2 iR @hbb))
       refine Zaz _ (.inl ⟨hfr2,hhd2⟩) ?_
       repeat (first|refine zR iR ?_|exact zU iR)
       refine At.of (k+1) ⟨by omega,fin2 fun _=>cw⟩ zO rfl rfl (Nat.le_refl _) ?_ ?_
       iterate 2 (case _=>(first|exact yU @hbs|refine yR @hbs ?_))
    ·have dx:decide ((x:Int)=(n:Int))=false:=decide_eq_false zO
     cases hbb:bgn l B n k with
     | true =>
      rw [hbb] at hbs
      repeat (first|refine zR (ja4 iR hxd.symm @dx @hbb) ?_|exact zU (ja4 iR hxd.symm @dx @hbb))
      refine At.of (k+1) ⟨by omega,fin2 fun h=>absurd h cx⟩ zO rfl rfl (Nat.le_refl _) ?_ ?_
      iterate 2 (case _=>(first|exact yU (ja2 @hbs @Bool.true_or)|refine yR (ja2 @hbs @Bool.true_or) ?_))
     | false =>
      rw [hbb,Bool.false_or] at hbs
      repeat (first|refine zR (ja4 iR hxd.symm @dx @hbb) ?_|exact zU (ja4 iR hxd.symm @dx @hbb))
      refine Zaz _ (.inl ⟨hfr2,hhd2⟩) ?_
      repeat (first|refine zR iR ?_|exact zU iR)
      refine At.of (k+1) ⟨by omega,fin2 fun h=>absurd h cx⟩ zO rfl rfl (Nat.le_refl _) ?_ ?_
      iterate 2 (case _=>(first|exact yU @hbs|refine yR @hbs ?_))
  ·simp only [decide_eq_false_iff_not] at h
   obtain rfl:k=l.length:=zO
   have hout:fr l n+cn l n≤w:=by
    rcases Nat.lt_or_ge w (fr l n+cn l n) with q | q
    ·exfalso
     have hin:=Zrq (l:=l) (m:=n) (j:=w-fr l n) zO zO
     exact hno _ hin.1 hin.2.1 (by rw [hin.2.2];omega)
    ·exact q
   have hb:=ZGf h15 hK hB (n:=n) zO hn15 hwd hout
   by_cases c1:w*2^(15-n)<Zav l
   ·rw [decide_eq_true c1] at hb
    rw [if_neg zO,if_neg zO] at hx
    have hnx:fr l (n+1)≤2*w:=by rw [fr];omega
    repeat (first|refine zR @hb ?_|exact zU @hb)
    refine At.of (n,w) ⟨by simp only;omega,by simp only;omega,hwd,hnx,by simp only;rw [show 15-n=f by omega];exact hx⟩ (by simp only;omega) rfl rfl (Nat.le_refl _) ?_ ?_
    iterate 2 (case _=>(first|exact yT|refine yS ?_))
   ·rw [decide_eq_false c1] at hb
    rw [if_pos zO] at hx
    subst hx
    repeat (first|refine zR (ja3 @hb iR @Zmm.eq_1) ?_|exact zU (ja3 @hb iR @Zmm.eq_1))
 ·simp only [decide_eq_false_iff_not] at h
  obtain rfl:p=15:=zO
  have hx:r=(0,15,3):=by rw [←hx];rfl
  subst hx
  repeat (first|refine zR BH5 ?_|exact zU BH5)
theorem Zwo {l:List Nat} {B:List Nat} {m:Nat}:∀ (f n v:Nat),n+f≤m→nxt l (B.take m) f n v=nxt l B f n v
 | 0,_,_,_=>rfl
 | f+1,n,v,h=>by
  have hg:(B.take m).getD n 0=B.getD n 0:=by simp only [List.getD];rw [List.getElem?_take,if_pos zO]
  rw [nxt,nxt,hg,Zwo f (n+1) _ zO,List.length_take]
  by_cases c:B.length≤n
  ·rw [if_pos c,if_pos zO]
  ·rw [if_neg c,if_neg zO]
theorem ZBz {l B:List Nat}:∀ (f n v:Nat),(nxt l B f n v).2.2=0→l.getD (nxt l B f n v).1 0=(nxt l B f n v).2.1
 | 0,n,v,h=>by simp [nxt] at h
 | f+1,n,v,h=>by
  rw [nxt] at h ⊢
  split
  ·rename_i c;rw [if_pos c] at h;simp at h
  ·rename_i c
   rw [if_neg c] at h
   split
   ·rename_i c;rw [if_pos c] at h;simp at h
   ·rename_i c
    rw [if_neg c] at h
    split
    ·rename_i c;exact (Zrq zO c).2.1
    ·rename_i c
     rw [if_neg c] at h
     exact ZBz f (n+1) _ h
def cdG (nl em:Bool) (l:List Nat):AV:=.agg [.sl nl none (l.map nA),.sl em none ((Za2 l).map nA)]
theorem Zmn {nl em:Bool} {l:List Nat}:(cdG nl em l).free=true:=by simp only [cdG,AV.free,AV.free.freeL,Zaa,Bool.and_self]
def syS (l B:List Nat) (i e:Nat):Nat × Nat × Nat:=if e≠0 then (0,i,e) else if (nxt l (B.drop i) 15 0 0).2.2=0 then ((nxt l (B.drop i) 15 0 0).1,i+(nxt l (B.drop i) 15 0 0).2.1,0) else (0,i,(nxt l (B.drop i) 15 0 0).2.2)
set_option maxHeartbeats 1000000 in
theorem Zlk [Tabs Tryz.prog] (nb:Bool) (B:List Nat) (hBl:B.length≤400000) (hB:∀ x∈B,x<2) (most i e:Nat) (hi:i≤B.length) (out:List UInt8) (nl em:Bool) (l:List Nat) (hl:l.length≤320) (h15:∀ x∈l,x≤15) (hK:Zav l≤32768) :
  HCon Tryz.prog Zbo [.op 1000 0 0,cdG nl em l] (stI nb B most i e out) (int ((syS l B i e).1:Int)) (stO 0 nb B most (syS l B i e).2.1 (syS l B i e).2.2 out) 4:=by
 refine HCon.of' mix Tryz.func50 rfl Tryz.ntmps50 Zgp Zgq zB (by simp only [AV.gl.glL,AV.gl,and_true];exact ⟨by omega,ZbP 1 _ Zmn⟩) Ztt ?_
 unfold ZcU
 by_cases c:e=0
 ·subst c
  obtain ⟨E,hE⟩:∃ E,E=min (i+15) B.length:=⟨_,rfl⟩
  have hEl:E≤B.length:=zO
  have hiE:i≤E:=zO
  have hdt:(B.take E).drop i=(B.drop i).take 15:=by
   rw [List.drop_take]
   by_cases q:i+15≤B.length
   ·congr 1;omega
   ·rw [List.take_of_length_le (by rw [List.length_drop];omega),List.take_of_length_le (by rw [List.length_drop];omega)]
  have hN:=Zyp l hl h15 hK nl em nb ((B.drop i).take 15) (by rw [List.length_take];omega) (fun x hx=>hB x (List.mem_of_mem_drop (List.mem_of_mem_take hx))) _ rfl
  rw [Zwo 15 0 0 zO] at hN
  have hlen:=ZBz (l:=l) (B:=B.drop i) 15 0 0
  have hsy:=Zjw (l:=l) (B:=B.drop i) 15 0 0
  have hfc:=Zh0 (l:=l) (B:=B.drop i) 15 0 0 (Nat.zero_le _)
  have hS:syS l B i 0=if (nxt l (B.drop i) 15 0 0).2.2=0 then ((nxt l (B.drop i) 15 0 0).1,i+(nxt l (B.drop i) 15 0 0).2.1,0) else (0,i,(nxt l (B.drop i) 15 0 0).2.2):=by rw [syS,if_neg zB]
  obtain ⟨⟨sy,m,e⟩,hr⟩:∃ r,r=nxt l (B.drop i) 15 0 0:=⟨_,rfl⟩
  rw [←hr] at hN hlen hsy hfc hS
  simp only at hlen hsy hfc hS
  rw [List.length_drop] at hfc
  rw [hS]
  obtain ⟨X,hX⟩:∃ X,X=Zmm nb ((B.drop i).take 15) (sy,m,e):=⟨_,rfl⟩
  have hXf:X.free=true:=by rw [hX];unfold Zmm;split <;> simp only [AV.free,Zaa]
  have hXc:Zas X=some [X]:=by rw [hX];unfold Zmm;split <;> rfl
  rw [←hX] at hN
  clear hr hS
  have hfr:AV.free.freeL [.sl nl none (l.map nA),.sl em none ((Za2 l).map nA),.sl nb none (((B.drop i).take 15).map nA)]=true:=by simp only [AV.free,AV.free.freeL,Zaa,Bool.and_self]
  by_cases q:(B.length:Int)<(i:Int)+15
  ·have d:=decide_eq_true q
   have hEB:E=B.length:=zO
   have hdt2:(B.drop i).take 15=B.drop i:=List.take_of_length_le (by rw [List.length_drop];omega)
   rw [hdt2] at hN hfr
   by_cases c2:e=0
   ·subst c2
    have hsl:=hsy rfl
    have hml:=hlen rfl
    rw [if_pos rfl]
    repeat (first|refine zR (ja6 @stI.eq_1 @stR.eq_1 @cdG.eq_1 @d iR @List.take_length.{0}) ?_|exact zU (ja6 @stI.eq_1 @stR.eq_1 @cdG.eq_1 @d iR @List.take_length.{0}))
    refine Zaz _ (.inl ⟨hfr,hN⟩) ?_
    repeat (first|refine zR (ja5 @stO.eq_1 @stR.eq_1 iR @hXc @hml) ?_|exact zU (ja5 @stO.eq_1 @stR.eq_1 iR @hXc @hml))
   ·have d2:decide ((e:Int)=0)=false:=decide_eq_false zO
    rw [if_neg c2]
    repeat (first|refine zR (ja6 @stI.eq_1 @stR.eq_1 @cdG.eq_1 @d iR @List.take_length.{0}) ?_|exact zU (ja6 @stI.eq_1 @stR.eq_1 @cdG.eq_1 @d iR @List.take_length.{0}))
    refine Zaz _ (.inl ⟨hfr,hN⟩) ?_
    repeat (first|refine zR (ja5 @stO.eq_1 @stR.eq_1 iR @hXc @d2) ?_|exact zU (ja5 @stO.eq_1 @stR.eq_1 iR @hXc @d2))
  ·have d:=decide_eq_false q
   have hEB:E=i+15:=zO
   have eE:(i:Int)+15=(E:Int):=zO
   by_cases c2:e=0
   ·subst c2
    have hsl:=hsy rfl
    have hml:=hlen rfl
    rw [if_pos rfl]
    have d':decide ((B.length:Int)<(E:Int))=false:=decide_eq_false zO
    repeat (first|refine zR (ja7 @stI.eq_1 @stR.eq_1 @cdG.eq_1 @eE @d' iR @hdt) ?_|exact zU (ja7 @stI.eq_1 @stR.eq_1 @cdG.eq_1 @eE @d' iR @hdt))
    refine Zaz _ (.inl ⟨hfr,hN⟩) ?_
    repeat (first|refine zR (ja5 @stO.eq_1 @stR.eq_1 iR @hXc @hml) ?_|exact zU (ja5 @stO.eq_1 @stR.eq_1 iR @hXc @hml))
   ·have d2:decide ((e:Int)=0)=false:=decide_eq_false zO
    rw [if_neg c2]
    have d':decide ((B.length:Int)<(E:Int))=false:=decide_eq_false zO
    repeat (first|refine zR (ja7 @stI.eq_1 @stR.eq_1 @cdG.eq_1 @eE @d' iR @hdt) ?_|exact zU (ja7 @stI.eq_1 @stR.eq_1 @cdG.eq_1 @eE @d' iR @hdt))
    refine Zaz _ (.inl ⟨hfr,hN⟩) ?_
    repeat (first|refine zR (ja5 @stO.eq_1 @stR.eq_1 iR @hXc @d2) ?_|exact zU (ja5 @stO.eq_1 @stR.eq_1 iR @hXc @d2))
 ·rw [show syS l B i e=(0,i,e) by rw [syS,if_pos c]]
  have d:decide ((e:Int)=0)=false:=decide_eq_false zO
  repeat (first|refine zR (ja6 @stI.eq_1 @stR.eq_1 @stO.eq_1 @cdG.eq_1 @d iR) ?_|exact zU (ja6 @stI.eq_1 @stR.eq_1 @stO.eq_1 @cdG.eq_1 @d iR))
end Go.Proofs.YtfplkgciebjehabGreatDoor.Aw
