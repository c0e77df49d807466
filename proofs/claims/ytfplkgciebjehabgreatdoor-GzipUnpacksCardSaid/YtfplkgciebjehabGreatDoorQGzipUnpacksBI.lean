/- Parts of the proof of GzipUnpacks. -/
import Derived.Test.YtfplkgciebjehabGreatDoorQGzipUnpacksBH
import Derived.Test.YtfplkgciebjehabGreatDoorQGzipUnpacksBD
import Derived.Lib.Bytealg
import Derived.Shelf.Small.Strs
import Derived.Shelf.Strings.Search1
import Derived.Shelf.Bytes.IndexByte
import Derived.Test.YtfplkgciebjehabGreatDoorProg
import Derived.Test.YtfplkgciebjehabGreatDoorQGzipUnpacksBF
import Derived.Test.YtfplkgciebjehabGreatDoorQGzipUnpacksBG
import Derived.Test.YtfplkgciebjehabGreatDoorQGzipUnpacksBE
namespace Go.Proofs.YtfplkgciebjehabGreatDoor.Aw
open Go
set_option linter.defProp false
set_option maxRecDepth 100000
set_option linter.unusedSimpArgs false
set_option linter.unusedVariables false
def Zxu (r:List UInt8 × Nat × Nat):AV:=if r.2.2=0 then .agg [.sl (nl0 r.1.length) none (r.1.map u8),int (r.2.1:Int),int 0] else .agg [.sc (.slice none 0 0),int 0,int (r.2.2:Int)]
theorem ZwX {r:List UInt8 × Nat × Nat}:(Zxu r).free=true:=by
 unfold Zxu
 by_cases c:r.2.2=0
 ·rw [if_pos c];simp only [AV.free,AV.free.freeL,Zag,int,Bool.and_self]
 ·rw [if_neg c];rfl
theorem ZwY {e:Nat} (h:e≠0):Zxu ([],0,e) = .agg [.sc (.slice none 0 0),int 0,int (e:Int)]:=by rw [Zxu,if_neg h]
theorem ZrJ {o:List UInt8} {u:Nat}:Zxu (o,u,0) = .agg [.sl (nl0 o.length) none (o.map u8),int (u:Int),int 0]:=rfl
theorem ZDz:Zi6 3=(Zi6 1).bnd fun x=>(Zi6 2).bnd fun y=>.ret (x+2*y):=rfl
theorem Zy1 {b:List UInt8} {most F i:Nat} {out:List UInt8} (hi:i≤8*b.length) {x p1 e1 y p2 e2:Nat} (h1:nuS (Zae b) 1 i 0=(x,p1,e1)) (h2:nuS (Zae b) 2 p1 e1=(y,p2,e2)) :
  (e2=0∧x<2∧y<4∧p2≤8*b.length∧(ZoX most F out).run (Zae b) i=((Zrx most F out y).run (Zae b) p2).bnd fun o j=>.ok (decide (x=1),o) j)∨(e2≠0∧(ZoX most F out).run (Zae b) i = .no e2):=by
 have f1:=ZhA (b:=b) (n:=1) (i:=i) (e:=0) zO hi
 rw [h1] at f1
 have f2:=ZhA (b:=b) (n:=2) (i:=p1) (e:=e1) zO f1.2
 rw [h2] at f2
 simp only at f1 f2
 have hB:(Zae b).length=8*b.length:=Zad
 have r1:=ZmF (B:=Zae b) (n:=1) (i:=i) zO
 rw [h1] at r1
 simp only at r1
 rw [ZoX,Zak,ZDz,Zak,r1]
 by_cases q1:e1=0
 ·subst q1
  have r2:=ZmF (B:=Zae b) (n:=2) (i:=p1) zO
  rw [h2] at r2
  simp only at r2
  rw [if_pos rfl]
  simp only [BR.bnd]
  rw [Zak,r2]
  by_cases q2:e2=0
  ·refine .inl ⟨q2,f1.1,f2.1,f2.2,?_⟩
   have hx2:x<2:=f1.1
   rw [if_pos q2]
   simp only [BR.bnd,BT.run]
   rw [Zak,show (x+2*y) / 2=y by omega,show (x+2*y) % 2=x by omega]
   rfl
  ·exact .inr ⟨q2,by rw [if_neg q2];rfl⟩
 ·rw [Zus q1] at h2
  cases h2
  exact .inr ⟨q1,by rw [if_neg q1];rfl⟩
abbrev RfX:=(Nat × List UInt8 × Nat × Nat × Nat) ⊕ (AV × AV × AV × AV × Nat × Nat)
def rfF (nb:Bool) (B:List Nat) (m:Nat):RfX→ASt
 | .inl (_,o,i,g,c)=>mk 78 c [(4,.op 4 0 0),(5,.op 19 1 0)] [(4,0,.row false [.sc (.slice none 0 0),int 0,int 0]),(19,1,.row false [.sl nb none (B.map nA),int (i:Int),.own 100 g none 0 o.length,int (m:Int),int 0]),(100,g,.row (nl0 o.length) (o.map u8))]
 | .inr (x,y,z,w,e,c)=>mk 78 c [(4,.op 4 0 0),(5,.op 19 1 0)] [(4,0,.row false [.sc (.slice none 0 0),int 0,int 0]),(19,1,.row false [x,y,z,w,int (e:Int)])]
def rfI (b:List UInt8) (m F:Nat) (r:BR (List UInt8)):RfX→Prop
 | .inl (f,o,i,_,_)=>(Zoz m F f o).run (Zae b) i=r∧i≤8*b.length∧8*b.length-i<f∧o.length≤m
 | .inr (_,_,_,_,e,_)=>r = .no e∧e≠0
def rfM:RfX→Nat
 | .inl (f,_)=>f+1
 | .inr _=>0
def BI1:=ja3 @stI.eq_1 @stR.eq_1 iR
def BI2:=ja3 @stO.eq_1 @stR.eq_1 iR
def BI3:=ja4 @rfF.eq_1 @rfF.eq_2 @jkR.eq_1 iR
def BI4:=ja2 @rfF.eq_1 @rfF.eq_2
def BI5:=ja3 @rfF.eq_1 @rfF.eq_2 iR
def BI8:=ja2 @List.set_cons_zero.{0} @List.set_cons_succ.{0}
def BI9:=ja4 @stI.eq_1 @stR.eq_1 iR @cdG.eq_1
set_option maxHeartbeats 4000000 in
theorem ZpZ [Tabs Tryz.prog] (nl:Bool) (b:List UInt8) (hb:b.length≤40000) (most:Int) (F:Nat) (hF:8*b.length<F) :
  Con Tryz.prog Zd6 [.sl nl none (b.map u8),int most] (Zxu (Zqj F b most)):=by
 refine Con.of' mix Tryz.func8 rfl Tryz.ntmps8 ZhS ZhT zB (by simp only [AV.free,AV.free.freeL,Zag,int,Bool.and_self]) ZwX ?_
 unfold Zd8
 by_cases c1:most<0
 ·have d1:=decide_eq_true c1
  rw [show Zxu (Zqj F b most) = .agg [.sc (.slice none 0 0),int 0,int 1] by rw [Zqj,if_pos (.inl c1)];rfl]
  repeat (first|refine zR @d1 ?_|exact zU @d1)
 have d1:=decide_eq_false c1
 by_cases c2:16777216<most
 ·have d2:=decide_eq_true c2
  rw [show Zxu (Zqj F b most) = .agg [.sc (.slice none 0 0),int 0,int 1] by rw [Zqj,if_pos (.inr c2)];rfl]
  repeat (first|refine zR (ja2 @d1 @d2) ?_|exact zU (ja2 @d1 @d2))
 have d2:=decide_eq_false c2
 rw [show Zqj F b most=ZoA F b most.toNat by rw [Zqj,if_neg zO]]
 obtain ⟨m,hm⟩:∃ m:Nat,most=(m:Int):=⟨most.toNat,by omega⟩
 subst hm
 rw [Int.toNat_natCast]
 have hm:m≤16777216:=zO
 obtain ⟨r,hr⟩:∃ r,(Zoz m F F []).run (Zae b) 0=r:=⟨_,rfl⟩
 have hse:=fun e (q:(Zoz m F F []).run (Zae b) 0 = .no e)=>Zeo (ZoE _ _) q
 rw [hr] at hse
 rw [ZoA,hr]
 have pB:=Zun nl b zO
 obtain ⟨nb,hnb⟩:∃ nb,nb=nl0 b.length:=⟨_,rfl⟩
 rw [←hnb] at pB
 clear hnb
 have hBl:(Zae b).length=8*b.length:=Zad
 have hNum:=fun i e hi out n hn=>Zf2 nb (Zae b) (by rw [hBl];omega) Zdc m i e hi out n hn
 repeat (first|refine zR (ja2 @d1 @d2) ?_|exact zU (ja2 @d1 @d2))
 refine Zaq _ (.inl ⟨by simp only [AV.free,AV.free.freeL,Zag,Bool.and_self],pB⟩) ?_
 iterate 1 (first|refine zS ?_|exact zT)
 refine SWp.adoptC 19 1 2 100 none (nl:=false) (cells:=[.sl nb none ((Zae b).map nA),int 0,.sc (.slice none 0 0),int (m:Int),int 0]) yT rfl (by decide) ?_
 repeat (first|refine zR BI8 ?_|exact zU BI8)
 refine SWp.loop (α:=RfX) (rfF nb (Zae b) m) (rfI b m F r) rfM (.inl (F,[],0,2,3)) ⟨hr,Nat.zero_le _,by omega,Nat.zero_le _⟩ (Zal rfl ?_ ?_ ?_) ?_
 ·exact Nat.le_refl _
 ·(first|exact yT|refine yS ?_)
 ·(first|exact yU @Zay|refine yR @Zay ?_)
  rfl
 clear hr
 rintro (⟨f,o,i,g,c⟩ | ⟨j1,j2,j3,j4,e,c⟩) hI -
 ·obtain ⟨hx,hi,hf,ho⟩:=hI
  obtain ⟨f,rfl⟩:∃ f',f=f'+1:=⟨f-1,by omega⟩
  have hbk:=fun p j (q:(ZoX m F o).run (Zae b) i = .ok p j)=>ZrI hi ho q
  rw [Zoz,Zak] at hx
  have cn1:=hNum i 0 zO o 1 zO
  obtain ⟨⟨x,p1,e1⟩,h1⟩:∃ s,nuS (Zae b) 1 i 0=s:=⟨_,rfl⟩
  have f1:=ZhA (b:=b) (n:=1) (i:=i) (e:=0) zO hi
  rw [h1] at f1 cn1
  have cn2:=hNum p1 e1 (by rw [hBl];exact f1.2) o 2 zO
  obtain ⟨⟨y,p2,e2⟩,h2⟩:∃ s,nuS (Zae b) 2 p1 e1=s:=⟨_,rfl⟩
  have hh:=Zy1 (most:=m) (F:=F) (out:=o) hi h1 h2
  rw [h2] at cn2
  simp only at cn1 cn2
  clear f1 h1 h2 hNum
  unfold rfF
  rcases hh with ⟨rfl,hx2,hy4,hp2,hbl⟩ | ⟨he,hbl⟩
  ·rw [hbl] at hx hbk
   have hse:=fun e (q:(Zrx m F o y).run (Zae b) p2 = .no e)=>Zeo ZoD q
   obtain ⟨r1,hr1⟩:∃ r1,(Zrx m F o y).run (Zae b) p2=r1:=⟨_,rfl⟩
   rw [hr1] at hx hbk hse
   rw [Zrx] at hr1
   by_cases k0:y=0
   ·rw [if_pos k0] at hr1
    subst k0
    have cS:=ZrE nb b hb m hm p2 hp2 o ho r1 hr1
    repeat (first|refine zS ?_|exact zT)
    refine Zab [(19,1),(100,g)] 7000 cn1 zB zB ?_ ?_ ?_
    iterate 2 (case _=>(first|exact yU BI1|refine yR BI1 ?_))
    repeat (first|refine zR BI2 ?_|exact zU BI2)
    refine Zab [(19,1),(100,g)] 8000 cn2 zB zB ?_ ?_ ?_
    iterate 2 (case _=>(first|exact yU BI1|refine yR BI1 ?_))
    repeat (first|refine zR BI2 ?_|exact zU BI2)
    refine Zab [(19,1),(100,g)] 9000 cS zB zB ?_ ?_ ?_
    iterate 2 (case _=>(first|exact yU BI1|refine yR BI1 ?_))
    cases r1 with
    | no e =>
     have he:=(hse e rfl).1
     simp only [BR.bnd] at hx
     subst hx
     have de:decide ((e:Int)=0)=false:=decide_eq_false zO
     by_cases cx:x=1
     ·have dx:decide ((x:Int)=1)=true:=decide_eq_true zO
      repeat (first|refine zR (ja6 @ZaF.eq_1 @ZaF.eq_2 @jkR.eq_1 iR @de @dx) ?_|exact zU (ja6 @ZaF.eq_1 @ZaF.eq_2 @jkR.eq_1 iR @de @dx))
      refine At.of (.inr (.junk,.junk,.junk,.junk,e,_)) ⟨rfl,he⟩ (Nat.succ_pos _) rfl rfl (Nat.le_refl _) ?_ ?_
      iterate 2 (case _=>(first|exact yU BI3|refine yR BI3 ?_))
     ·have dx:decide ((x:Int)=1)=false:=decide_eq_false zO
      repeat (first|refine zR (ja6 @ZaF.eq_1 @ZaF.eq_2 @jkR.eq_1 iR @de @dx) ?_|exact zU (ja6 @ZaF.eq_1 @ZaF.eq_2 @jkR.eq_1 iR @de @dx))
      refine At.of (.inr (.junk,.junk,.junk,.junk,e,_)) ⟨rfl,he⟩ (Nat.succ_pos _) rfl rfl (Nat.le_refl _) ?_ ?_
      iterate 2 (case _=>(first|exact yU BI3|refine yR BI3 ?_))
    | ok o2 j =>
     simp only [BR.bnd] at hx hbk
     obtain ⟨hij,hj,ho2⟩:=hbk _ _ rfl
     by_cases cx:x=1
     ·have dx:decide ((x:Int)=1)=true:=decide_eq_true zO
      rw [decide_eq_true cx,if_pos rfl] at hx
      simp only [BT.run] at hx
      subst hx
      simp only [Zzy]
      rw [ZrJ]
      obtain ⟨w,hw⟩:∃ w,w=j+7:=⟨_,rfl⟩
      have ew:(j:Int)+7=(w:Int):=zO
      rw [←hw]
      repeat (first|refine zR (ja7 @ZaF.eq_1 @ZaF.eq_2 @stO.eq_1 @stR.eq_1 iR @dx @ew) ?_|exact zU (ja7 @ZaF.eq_1 @ZaF.eq_2 @stO.eq_1 @stR.eq_1 iR @dx @ew))
     ·have dx:decide ((x:Int)=1)=false:=decide_eq_false zO
      rw [decide_eq_false cx,if_neg zB] at hx
      repeat (first|refine zR (ja6 @ZaF.eq_1 @ZaF.eq_2 @stO.eq_1 @stR.eq_1 iR @dx) ?_|exact zU (ja6 @ZaF.eq_1 @ZaF.eq_2 @stO.eq_1 @stR.eq_1 iR @dx))
      refine At.of (.inl (f,o2,j,c+1+1+200000,c+1+1+200001)) ⟨hx,hj,by omega,ho2⟩ (Nat.lt_succ_self _) rfl rfl (by simp only;omega) ?_ ?_
      ·(first|exact yU BI4|refine yR BI4 ?_)
       try omega
      ·(first|exact yU BI5|refine yR BI5 ?_)
       try omega
   ·rw [if_neg k0] at hr1
    have dk0:decide ((y:Int)=0)=false:=decide_eq_false zO
    by_cases k1:y=1
    ·rw [if_pos k1] at hr1
     subst k1
     have cC:=ZnK nb (Zae b) zO Zdc m hm p2 zO o ho false false ZnH (by rw [Zbk.2.1];omega) Zbk.1 (by rw [Zbk.2.2];omega) false false Zoy (by rw [Zbx.2.1];omega) Zbx.1 (by rw [Zbx.2.2];omega) F zO r1 hr1
     have cM:=Zio false Zoy Zbx.1 (by rw [Zbx.2.1];omega) (by rw [Zbx.2.2];omega)
     rw [show Zoy.isEmpty=false from rfl] at cM
     have cT:=ZcF 5 32 zO
     rw [show List.replicate 32 5=Zoy from rfl] at cT
     have lD:Zoy.length=32:=Zbx.2.1
     have lDt:Zoy.take 32=Zoy:=List.take_of_length_le zO
     repeat (first|refine zS ?_|exact zT)
     refine Zab [(19,1),(100,g)] 7000 cn1 zB zB ?_ ?_ ?_
     iterate 2 (case _=>(first|exact yU BI1|refine yR BI1 ?_))
     repeat (first|refine zR BI2 ?_|exact zU BI2)
     refine Zab [(19,1),(100,g)] 8000 cn2 zB zB ?_ ?_ ?_
     iterate 2 (case _=>(first|exact yU BI1|refine yR BI1 ?_))
     repeat (first|refine zR BI2 ?_|exact zU BI2)
     refine Zaq _ (.inl ⟨rfl,Zuu⟩) ?_
     repeat (first|refine zR BI2 ?_|exact zU BI2)
     refine Zab [] 9000 cT zB zB ?_ ?_ ?_
     iterate 2 (case _=>(first|exact yU (ja2 @cdG.eq_1 iR)|refine yR (ja2 @cdG.eq_1 iR) ?_))
     repeat (first|refine zR BI2 ?_|exact zU BI2)
     refine ZkK 9005 (c+1+1+35) (nl:=false) (cells:=Zoy.map nA) [.sl false none (Zoy.map nA)] _ (by (first|exact yT|refine yS ?_);rfl) Zaj ?_ (by simp only [AV.free,AV.free.freeL,Zaj,Bool.and_self]) cM ?_
     ·(first|exact yU (ja4 fR iR @lD @lDt)|refine yR (ja4 fR iR @lD @lDt) ?_)
     repeat (first|refine zR BI2 ?_|exact zU BI2)
     refine Zab [(19,1),(100,g)] 10000 cC zB zB ?_ ?_ ?_
     iterate 2 (case _=>(first|exact yU BI9|refine yR BI9 ?_))
     cases r1 with
     | no e =>
      have he:=(hse e rfl).1
      simp only [BR.bnd] at hx
      subst hx
      have de:decide ((e:Int)=0)=false:=decide_eq_false zO
      by_cases cx:x=1
      ·have dx:decide ((x:Int)=1)=true:=decide_eq_true zO
       repeat (first|refine zR (ja6 @ZaF.eq_1 @ZaF.eq_2 @jkR.eq_1 iR @de @dx) ?_|exact zU (ja6 @ZaF.eq_1 @ZaF.eq_2 @jkR.eq_1 iR @de @dx))
       refine At.of (.inr (.junk,.junk,.junk,.junk,e,_)) ⟨rfl,he⟩ (Nat.succ_pos _) rfl rfl (Nat.le_refl _) ?_ ?_
       iterate 2 (case _=>(first|exact yU BI3|refine yR BI3 ?_))
      ·have dx:decide ((x:Int)=1)=false:=decide_eq_false zO
       repeat (first|refine zR (ja6 @ZaF.eq_1 @ZaF.eq_2 @jkR.eq_1 iR @de @dx) ?_|exact zU (ja6 @ZaF.eq_1 @ZaF.eq_2 @jkR.eq_1 iR @de @dx))
       refine At.of (.inr (.junk,.junk,.junk,.junk,e,_)) ⟨rfl,he⟩ (Nat.succ_pos _) rfl rfl (Nat.le_refl _) ?_ ?_
       iterate 2 (case _=>(first|exact yU BI3|refine yR BI3 ?_))
     | ok o2 j =>
      simp only [BR.bnd] at hx hbk
      obtain ⟨hij,hj,ho2⟩:=hbk _ _ rfl
      by_cases cx:x=1
      ·have dx:decide ((x:Int)=1)=true:=decide_eq_true zO
       rw [decide_eq_true cx,if_pos rfl] at hx
       simp only [BT.run] at hx
       subst hx
       simp only [Zzy]
       rw [ZrJ]
       obtain ⟨w,hw⟩:∃ w,w=j+7:=⟨_,rfl⟩
       have ew:(j:Int)+7=(w:Int):=zO
       rw [←hw]
       repeat (first|refine zR (ja7 @ZaF.eq_1 @ZaF.eq_2 @stO.eq_1 @stR.eq_1 iR @dx @ew) ?_|exact zU (ja7 @ZaF.eq_1 @ZaF.eq_2 @stO.eq_1 @stR.eq_1 iR @dx @ew))
      ·have dx:decide ((x:Int)=1)=false:=decide_eq_false zO
       rw [decide_eq_false cx,if_neg zB] at hx
       repeat (first|refine zR (ja6 @ZaF.eq_1 @ZaF.eq_2 @stO.eq_1 @stR.eq_1 iR @dx) ?_|exact zU (ja6 @ZaF.eq_1 @ZaF.eq_2 @stO.eq_1 @stR.eq_1 iR @dx))
       refine At.of (.inl (f,o2,j,c+1+1+36+(1000*F+3),c+1+1+36+(1000*F+4))) ⟨hx,hj,by omega,ho2⟩ (Nat.lt_succ_self _) rfl rfl (by simp only;omega) ?_ ?_
       ·(first|exact yU BI4|refine yR BI4 ?_)
        try omega
       ·(first|exact yU BI5|refine yR BI5 ?_)
        try omega
    ·rw [if_neg k1] at hr1
     have dk1:decide ((y:Int)=1)=false:=decide_eq_false zO
     by_cases k2:y=2
     ·rw [if_pos k2] at hr1
      subst k2
      have cT:=ZwT nb b hb m hm p2 hp2 o ho F hF r1 hr1
      repeat (first|refine zS ?_|exact zT)
      refine Zab [(19,1),(100,g)] 7000 cn1 zB zB ?_ ?_ ?_
      iterate 2 (case _=>(first|exact yU BI1|refine yR BI1 ?_))
      repeat (first|refine zR BI2 ?_|exact zU BI2)
      refine Zab [(19,1),(100,g)] 8000 cn2 zB zB ?_ ?_ ?_
      iterate 2 (case _=>(first|exact yU BI1|refine yR BI1 ?_))
      repeat (first|refine zR BI2 ?_|exact zU BI2)
      refine Zab [(19,1),(100,g)] 9000 cT zB zB ?_ ?_ ?_
      iterate 2 (case _=>(first|exact yU BI1|refine yR BI1 ?_))
      cases r1 with
      | no e =>
       have he:=(hse e rfl).1
       simp only [BR.bnd] at hx
       subst hx
       have de:decide ((e:Int)=0)=false:=decide_eq_false zO
       by_cases cx:x=1
       ·have dx:decide ((x:Int)=1)=true:=decide_eq_true zO
        repeat (first|refine zR (ja6 @ZaF.eq_1 @ZaF.eq_2 @jkR.eq_1 iR @de @dx) ?_|exact zU (ja6 @ZaF.eq_1 @ZaF.eq_2 @jkR.eq_1 iR @de @dx))
        refine At.of (.inr (.junk,.junk,.junk,.junk,e,_)) ⟨rfl,he⟩ (Nat.succ_pos _) rfl rfl (Nat.le_refl _) ?_ ?_
        iterate 2 (case _=>(first|exact yU BI3|refine yR BI3 ?_))
       ·have dx:decide ((x:Int)=1)=false:=decide_eq_false zO
        repeat (first|refine zR (ja6 @ZaF.eq_1 @ZaF.eq_2 @jkR.eq_1 iR @de @dx) ?_|exact zU (ja6 @ZaF.eq_1 @ZaF.eq_2 @jkR.eq_1 iR @de @dx))
        refine At.of (.inr (.junk,.junk,.junk,.junk,e,_)) ⟨rfl,he⟩ (Nat.succ_pos _) rfl rfl (Nat.le_refl _) ?_ ?_
        iterate 2 (case _=>(first|exact yU BI3|refine yR BI3 ?_))
      | ok o2 j =>
       simp only [BR.bnd] at hx hbk
       obtain ⟨hij,hj,ho2⟩:=hbk _ _ rfl
       by_cases cx:x=1
       ·have dx:decide ((x:Int)=1)=true:=decide_eq_true zO
        rw [decide_eq_true cx,if_pos rfl] at hx
        simp only [BT.run] at hx
        subst hx
        simp only [Zzy]
        rw [ZrJ]
        obtain ⟨w,hw⟩:∃ w,w=j+7:=⟨_,rfl⟩
        have ew:(j:Int)+7=(w:Int):=zO
        rw [←hw]
        repeat (first|refine zR (ja7 @ZaF.eq_1 @ZaF.eq_2 @stO.eq_1 @stR.eq_1 iR @dx @ew) ?_|exact zU (ja7 @ZaF.eq_1 @ZaF.eq_2 @stO.eq_1 @stR.eq_1 iR @dx @ew))
       ·have dx:decide ((x:Int)=1)=false:=decide_eq_false zO
        rw [decide_eq_false cx,if_neg zB] at hx
        repeat (first|refine zR (ja6 @ZaF.eq_1 @ZaF.eq_2 @stO.eq_1 @stR.eq_1 iR @dx) ?_|exact zU (ja6 @ZaF.eq_1 @ZaF.eq_2 @stO.eq_1 @stR.eq_1 iR @dx))
        refine At.of (.inl (f,o2,j,c+1+1+(1000*F+500000),c+1+1+(1000*F+500001))) ⟨hx,hj,by omega,ho2⟩ (Nat.lt_succ_self _) rfl rfl (by simp only;omega) ?_ ?_
        ·(first|exact yU BI4|refine yR BI4 ?_)
         try omega
        ·(first|exact yU BI5|refine yR BI5 ?_)
         try omega
     ·rw [if_neg k2] at hr1
      simp only [BT.run] at hr1
      subst hr1
      simp only [BR.bnd] at hx
      subst hx
      have dk2:decide ((y:Int)=2)=false:=decide_eq_false zO
      repeat (first|refine zS ?_|exact zT)
      refine Zab [(19,1),(100,g)] 7000 cn1 zB zB ?_ ?_ ?_
      iterate 2 (case _=>(first|exact yU BI1|refine yR BI1 ?_))
      repeat (first|refine zR BI2 ?_|exact zU BI2)
      refine Zab [(19,1),(100,g)] 8000 cn2 zB zB ?_ ?_ ?_
      iterate 2 (case _=>(first|exact yU BI1|refine yR BI1 ?_))
      repeat (first|refine zR (ja6 @stO.eq_1 @stR.eq_1 iR @dk0 @dk1 @dk2) ?_|exact zU (ja6 @stO.eq_1 @stR.eq_1 iR @dk0 @dk1 @dk2))
      by_cases cx:x=1
      ·have dx:decide ((x:Int)=1)=true:=decide_eq_true zO
       (first|exact yU (ja3 @stR.eq_1 iR @dx)|refine yR (ja3 @stR.eq_1 iR @dx) ?_)
       repeat (first|refine zR (ja3 @stR.eq_1 iR @dx) ?_|exact zU (ja3 @stR.eq_1 iR @dx))
       refine At.of (.inr (.sl nb none ((Zae b).map nA),int (p2:Int),.own 100 g none 0 o.length,int (m:Int),3,_)) ⟨rfl,by simp⟩ (Nat.succ_pos _) rfl rfl (Nat.le_refl _) ?_ ?_
       ·(first|exact yU BI4|refine yR BI4 ?_)
       ·(first|exact yU BI5|refine yR BI5 ?_)
        try rfl
      ·have dx:decide ((x:Int)=1)=false:=decide_eq_false zO
       (first|exact yU (ja3 @stR.eq_1 iR @dx)|refine yR (ja3 @stR.eq_1 iR @dx) ?_)
       repeat (first|refine zR (ja3 @stR.eq_1 iR @dx) ?_|exact zU (ja3 @stR.eq_1 iR @dx))
       refine At.of (.inr (.sl nb none ((Zae b).map nA),int (p2:Int),.own 100 g none 0 o.length,int (m:Int),3,_)) ⟨rfl,by simp⟩ (Nat.succ_pos _) rfl rfl (Nat.le_refl _) ?_ ?_
       ·(first|exact yU BI4|refine yR BI4 ?_)
       ·(first|exact yU BI5|refine yR BI5 ?_)
        try rfl
  ·rw [hbl] at hx
   simp only [BR.bnd] at hx
   subst hx
   have de:decide ((e2:Int)=0)=false:=decide_eq_false zO
   repeat (first|refine zS ?_|exact zT)
   refine Zab [(19,1),(100,g)] 7000 cn1 zB zB ?_ ?_ ?_
   iterate 2 (case _=>(first|exact yU BI1|refine yR BI1 ?_))
   repeat (first|refine zR BI2 ?_|exact zU BI2)
   refine Zab [(19,1),(100,g)] 8000 cn2 zB zB ?_ ?_ ?_
   iterate 2 (case _=>(first|exact yU BI1|refine yR BI1 ?_))
   simp only [Zzy]
   rw [ZwY he]
   repeat (first|refine zR (ja4 @stO.eq_1 @stR.eq_1 iR @de) ?_|exact zU (ja4 @stO.eq_1 @stR.eq_1 iR @de))
 ·obtain ⟨rfl,he⟩:=hI
  have de:decide ((e:Int)=0)=false:=decide_eq_false zO
  simp only [Zzy]
  rw [ZwY he]
  unfold rfF
  repeat (first|refine zR (ja3 @jkR.eq_1 iR @de) ?_|exact zU (ja3 @jkR.eq_1 iR @de))
theorem Zp0 (b:List UInt8) (k:Nat) (h:k<b.length):b.take (k+1)=b.take k++[b.getD k 0]:=by
 rw [List.take_succ_eq_append_getElem h];simp [List.getD,List.getElem?_eq_getElem h]
theorem k0:AV.sc (.int .u32 0)=w32 0:=rfl
theorem k1:AV.sc (.int .u32 1)=w32 1:=rfl
theorem kP:AV.sc (.int .u32 3988292384)=w32 3988292384:=rfl
theorem ZDd {c:UInt32}:ZhX .shr (w32 c) (.sc (.int .u64 1))=(True,w32 (UInt32.ofNat (c.toNat / 2))):=Zwb (k:=.u64) (n:=1)
def ZmM (c:UInt32):UInt32:=if c&&&1=0 then UInt32.ofNat (c.toNat / 2) else UInt32.ofNat (c.toNat / 2) ^^^ 3988292384
def Zkv (x:UInt32):Nat→UInt32
 | 0=>x
 | k+1=>ZmM (Zkv x k)
def ZwZ (c:UInt32) (b:UInt8):UInt32:=Zkv (c ^^^ UInt32.ofNat b.toNat) 8
def Zuv (c:UInt32) (l:List UInt8):UInt32:=l.foldl ZwZ c
theorem Zp1 (c:UInt32) (l:List UInt8) (b:UInt8):Zuv c (l++[b])=ZwZ (Zuv c l) b:=by simp [Zuv]
def Zdr (s:UInt32) (l:List UInt8):UInt32 := ~~~(Zuv (~~~s) l)
theorem ZlK [Tabs Tryz.prog] (s:UInt32) (nl:Bool) (l:List UInt8) (hl:l.length≤1000000):Con Tryz.prog ZhF [w32 s,.sl nl none (l.map u8)] (w32 (Zdr s l)):=by
 refine Con.of' mix Tryz.func136 rfl Tryz.ntmps136 Zlw Zlx zB (by simp only [AV.free.freeL,Zoh,AV.free,Zag,Bool.and_self]) rfl ?_
 unfold ZhK
 repeat (first|refine zS ?_|exact zT)
 refine SWp.loop (α:=Nat) (fun k=>mk 35 0 [(5,w32 (Zuv (~~~s) (l.take k))),(11,.sl nl none (l.map u8)),(12,int l.length),(13,int k)] [])
  (fun k=>k≤l.length) (fun k=>l.length-k) 0 (Nat.zero_le _) (Zal rfl ?_ ?_ ?_) ?_
 ·exact Nat.le_refl _
 ·(first|exact yT|refine yS ?_)
  rfl
 ·(first|exact yT|refine yS ?_)
 rintro k hk -
 repeat (first|refine zS ?_|exact zT)
 refine SWp.cond rfl (fun h=>?_) (fun h=>?_)
 ·simp only [decide_eq_true_eq] at h
  have hk':k<l.length:=zO
  have hs:Zuv (~~~s) (l.take (k+1))=Zkv (Zuv (~~~s) (l.take k) ^^^ UInt32.ofNat (l.getD k 0).toNat) 8:=by rw [Zp0 l k hk',Zp1];rfl
  obtain ⟨c,hc⟩:∃ c,c=Zuv (~~~s) (l.take k) ^^^ UInt32.ofNat (l.getD k 0).toNat:=⟨_,rfl⟩
  rw [←hc] at hs
  repeat (first|refine zR hc.symm ?_|exact zU hc.symm)
  refine SWp.loop (α:=Nat) (fun j=>mk 35 0 [(5,w32 (Zkv c j)),(11,.sl nl none (l.map u8)),(12,int l.length),(13,int k),(21,int j)] [])
   (fun j=>j≤8) (fun j=>8-j) 0 (Nat.zero_le _) (Zal rfl ?_ ?_ ?_) ?_
  ·exact Nat.le_refl _
  iterate 2 (case _=>(first|exact yU (ja3 @Zkv.eq_1 @Zkv.eq_2 hc.symm)|refine yR (ja3 @Zkv.eq_1 @Zkv.eq_2 hc.symm) ?_))
  rintro j hj -
  repeat (first|refine zS ?_|exact zT)
  refine SWp.cond rfl (fun h=>?_) (fun h=>?_)
  ·simp only [decide_eq_true_eq] at h
   by_cases c0:Zkv c j&&&1=0
   ·have d0:=decide_eq_true c0
    have he:Zkv c (j+1)=UInt32.ofNat ((Zkv c j).toNat / 2):=by simp only [Zkv,ZmM];rw [if_pos c0]
    repeat (first|refine zR (ja5 @d0 @k0 @k1 @kP @ZDd) ?_|exact zU (ja5 @d0 @k0 @k1 @kP @ZDd))
    refine At.of (j+1) zO zO rfl rfl (Nat.le_refl _) ?_ ?_
    iterate 2 (case _=>(first|exact yU @he|refine yR @he ?_))
   ·have d0:=decide_eq_false c0
    have he:Zkv c (j+1)=UInt32.ofNat ((Zkv c j).toNat / 2) ^^^ 3988292384:=by simp only [Zkv,ZmM];rw [if_neg c0]
    repeat (first|refine zR (ja5 @d0 @k0 @k1 @kP @ZDd) ?_|exact zU (ja5 @d0 @k0 @k1 @kP @ZDd))
    refine At.of (j+1) zO zO rfl rfl (Nat.le_refl _) ?_ ?_
    iterate 2 (case _=>(first|exact yU @he|refine yR @he ?_))
  ·simp only [decide_eq_false_iff_not] at h
   obtain rfl:j=8:=zO
   repeat (first|refine zS ?_|exact zT)
   refine At.of (k+1) zO zO rfl rfl (Nat.le_refl _) ?_ ?_
   iterate 2 (case _=>(first|exact yU @hs|refine yR @hs ?_))
 ·simp only [decide_eq_false_iff_not] at h
  obtain rfl:k=l.length:=zO
  repeat (first|refine zR (ja2 @List.take_length.{0} @Zdr.eq_1) ?_|exact zU (ja2 @List.take_length.{0} @Zdr.eq_1))
theorem Zip [Tabs Tryz.prog] (nl:Bool) (l:List UInt8) (hl:l.length≤1000000):Con Tryz.prog Zh6 [.sl nl none (l.map u8)] (w32 (Zdr 0 l)):=by
 refine Con.of' mix Tryz.func102 rfl Tryz.ntmps102 Zpx Zpy zB (by simp only [AV.free.freeL,AV.free,Zag,Bool.and_self]) rfl ?_
 unfold Zlk
 repeat (first|refine zR @k0 ?_|exact zU @k0)
 refine Zaq _ (.inl ⟨by simp only [AV.free.freeL,Zoh,AV.free,Zag,Bool.and_self],ZlK 0 nl l hl⟩) ?_
 repeat (first|refine zS ?_|exact zT)
theorem Zm6 (l:List UInt8) (c:UInt8) (n:Nat) (hn:n<l.length) (hc:l.getD n 0=c) (h:∀ k,k<n→l.getD k 0≠c):Lib.indexByte l c=n:=by
 induction l generalizing n with
 | nil=>simp at hn
 | cons b l ih =>
  cases n with
  | zero=>simp only [List.getD_cons_zero] at hc;simp [Lib.indexByte,hc]
  | succ n =>
   have h0:=h 0 zO
   simp only [List.getD_cons_zero] at h0
   have hr:=ih n (by simpa using hn) (by simpa using hc) fun k hk=>by simpa using h (k+1) zO
   have:((n:Int)==-1)=false:=by simp
   simp [Lib.indexByte,h0,hr,this]
theorem Zkp (b:List UInt8) (k:Nat) (h:k<b.length):b.take (k+1)=b.take k++[b.getD k 0]:=by
 rw [List.take_succ_eq_append_getElem h];simp [List.getD,List.getElem?_eq_getElem h]
theorem Zbd {x:Int} (h1:0≤x) (h2:x<18446744073709551616):IntKind.u64.wrap x=x:=by
 simp only [IntKind.wrap,IntKind.bits,IntKind.signed]
 simp
 omega
def leB (n:Nat) (size:Nat):List UInt8:=(List.range size).map fun i=>UInt8.ofNat (n / 2^(8*i))
def leK (n size k:Nat):List AV:=(List.range size).map fun i=>.sc (.int .u8 (if i<k then ((n / 2^(8*i) % 256:Nat):Int) else 0))
theorem Zk4 {n size k:Nat}:(leK n size k).length=size:=by simp [leK]
theorem Zy2 (n size:Nat):(List.replicate size [AV.sc (.int .u8 0)]).flatten=leK n size 0:=by
 apply List.ext_getElem
 ·simp [leK]
 ·intro i h1 h2
  simp [leK]
theorem ZBj (n size k:Nat) (h:k<size):(leK n size k).take k++(.sc (.int .u8 ((n / 2^(8*k) % 256:Nat):Int))::(leK n size k).drop (k+1))=leK n size (k+1):=by
 apply List.ext_getElem
 ·simp [leK];omega
 ·intro i h1 h2
  have hi:i<size:=by simpa [leK] using h2
  have e:((leK n size k).take k).length=k:=by simp [leK];omega
  rw [List.getElem_append]
  split
  ·rename_i hlt
   rw [e] at hlt
   simp [leK,hlt,show i<k+1 by omega]
  ·rename_i hge
   rw [e] at hge
   rw [List.getElem_cons]
   split
   ·rename_i h0
    rw [e] at h0
    obtain rfl:i=k:=zO
    simp [leK]
   ·rename_i h0
    rw [e] at h0
    have h1:¬ i<k:=zO
    have h2:¬ i<k+1:=zO
    have h3:¬ (k+1+(i-k-1)<k):=zO
    simp only [List.getElem_drop,e]
    simp [leK,h2,h3]
theorem ZsB (n size:Nat):leK n size size=(leB n size).map u8:=by
 simp only [leK,leB,List.map_map]
 apply List.map_congr_left
 intro i hi
 rw [List.mem_range] at hi
 simp only [Function.comp,u8,if_pos hi,UInt8.toNat_ofNat']
def beR (n:Nat) (size:Int):AV:=if size<1∨8<size then .sc (.slice none 0 0) else .sl false none ((leB n size.toNat).reverse.map u8)
def leR (n:Nat) (size:Int):AV:=if size<1∨8<size then .sc (.slice none 0 0) else .sl false none ((leB n size.toNat).map u8)
theorem ZhB {n m:Nat}:((no_index (@OfNat.ofNat Int m instOfNat))*(n:Int)).toNat=(@OfNat.ofNat Nat m (instOfNatNat m))*n:=rfl
theorem ZrK {n:Nat}:IntKind.u8.wrap (n:Int)=((n % 256:Nat):Int):=by rw [ZvL];rfl
theorem ZiA [Tabs Tryz.prog] (n:Nat) (hn:n<18446744073709551616) (size:Int) (h1:-9223372036854775808≤size) (h2:size≤9223372036854775807):Con Tryz.prog ZgP [.sc (.int .u64 n),int size] (leR n size):=by
 refine Con.of' mix Tryz.func101 rfl Tryz.ntmps101 Zuh Zui zB (by simp [AV.free,AV.free.freeL,int]) (by unfold leR;split <;> simp [AV.free,Zag]) ?_
 unfold ZnA
 by_cases c1:size<1
 ·have d1:decide (size<1)=true:=decide_eq_true c1
  have hu:leR n size = .sc (.slice none 0 0):=if_pos (.inl c1)
  repeat (first|refine zR (ja2 @d1 @hu) ?_|exact zU (ja2 @d1 @hu))
 ·have d1:decide (size<1)=false:=decide_eq_false c1
  by_cases c2:8<size
  ·have d2:decide (8<size)=true:=decide_eq_true c2
   have hu:leR n size = .sc (.slice none 0 0):=if_pos (.inr c2)
   repeat (first|refine zR (ja3 @d1 @d2 @hu) ?_|exact zU (ja3 @d1 @d2 @hu))
  ·have d2:decide (8<size)=false:=decide_eq_false c2
   have hu:leR n size = .sl false none ((leB n size.toNat).map u8):=if_neg zO
   obtain ⟨m,rfl⟩:∃ m:Nat,size=m:=⟨size.toNat,by omega⟩
   repeat (first|refine wA ?_|refine wB ?_|refine wC rfl ?_|refine wD rfl ?_|refine wE ?_|refine wF zO ?_ | ((first|refine wG ?_|refine wH ?_|refine wI ?_|refine wJ ?_|refine wK ?_|refine wL ?_);simp (disch:=omega) only [wP,wZ,so,sm,sg,sn,undef,seval,if_pos,if_neg,Za3,frz,AV.flat,↓reduceIte,ne_eq,reduceCtorEq,ByteArray.size,d1,d2,Zy2 n]))
   refine SWp.loop (α:=Nat) (fun k=>mk 29 1 [(0,.sc (.int .u64 n)),(5,.own 14 0 none 0 m),(15,int m),(16,int k)] [(14,0,.row false (leK n m k))])
    (fun k=>k≤m) (fun k=>m-k) 0 (Nat.zero_le _) (Zal rfl ?_ ?_ ?_) ?_
   ·exact Nat.le_refl _
   iterate 2 (case _=>(first|exact yT|refine yS ?_))
   ·rintro k hk -
    refine SWp.seq (SWp.reg ?_)
    (first|exact yT|refine yS ?_)
    refine SWp.seq (SWp.cond rfl (fun h=>?_) (fun h=>?_))
    ·simp only [decide_eq_true_eq] at h
     have hk':k<m:=zO
     repeat (first|refine wA ?_|refine wB ?_|refine wC rfl ?_|refine wD rfl ?_|refine wE ?_|refine wF zO ?_ | ((first|refine wG ?_|refine wH ?_|refine wI ?_|refine wJ ?_|refine wK ?_|refine wL ?_);simp (disch:=omega) only [wP,wZ,so,sm,sg,sn,undef,seval,if_pos,if_neg,Za3,frz,AV.flat,↓reduceIte,ne_eq,reduceCtorEq,ByteArray.size,Zk4,ZhB,ZrK,ZBj n m k hk']))
     refine At.of (k+1) zO zO rfl rfl (Nat.le_refl _) ?_ ?_
     iterate 2 (case _=>(first|exact yT|refine yS ?_))
    ·simp only [decide_eq_false_iff_not] at h
     obtain rfl:k=m:=zO
     have hlb:(leB n k).length=k:=by simp [leB]
     repeat (first|refine zR (ja5 @hu @ZsB @Zk4 @hlb @List.take_of_length_le.{0}) ?_|exact zU (ja5 @hu @ZsB @Zk4 @hlb @List.take_of_length_le.{0}))
def stB (len:Nat) (at_ size:Int):Bool:=decide (1≤size∧size≤8∧0≤at_∧at_≤len-size)
theorem Zm7 [Tabs Tryz.prog] (nl:Bool) (b:List UInt8) (hb:b.length≤1000000) (at_ size:Int):Con Tryz.prog Zi3 [.sl nl none (b.map u8),int at_,int size] (boo (stB b.length at_ size)):=by
 refine Con.of' mix Tryz.func137 rfl Tryz.ntmps137 ZmW ZmX zB (by simp only [AV.free,AV.free.freeL,Zag,int,Bool.and_self]) rfl ?_
 unfold Zi4
 by_cases c1:size<1
 ·have d1:=decide_eq_true c1
  have hu:stB b.length at_ size=false:=decide_eq_false zO
  repeat (first|refine zR (ja2 @d1 @hu) ?_|exact zU (ja2 @d1 @hu))
 ·have d1:=decide_eq_false c1
  by_cases c2:8<size
  ·have d2:=decide_eq_true c2
   have hu:stB b.length at_ size=false:=decide_eq_false zO
   repeat (first|refine zR (ja3 @d1 @d2 @hu) ?_|exact zU (ja3 @d1 @d2 @hu))
  ·have d2:=decide_eq_false c2
   by_cases c3:at_<0
   ·have d3:=decide_eq_true c3
    have hu:stB b.length at_ size=false:=decide_eq_false zO
    repeat (first|refine zR (ja4 @d1 @d2 @d3 @hu) ?_|exact zU (ja4 @d1 @d2 @d3 @hu))
   ·have d3:=decide_eq_false c3
    have hu:stB b.length at_ size=decide (at_≤(b.length:Int)-size):=by
     unfold stB
     by_cases h:at_≤(b.length:Int)-size
     ·rw [decide_eq_true h];exact decide_eq_true zO
     ·rw [decide_eq_false h];exact decide_eq_false zO
    repeat (first|refine zR (ja4 @d1 @d2 @d3 @hu) ?_|exact zU (ja4 @d1 @d2 @d3 @hu))
def beN (l:List UInt8):Nat:=l.foldl (fun n c=>n*256+c.toNat) 0
def leN (l:List UInt8):Nat:=beN l.reverse
theorem Zy3 (l:List UInt8) (c:UInt8):beN (l++[c])=beN l*256+c.toNat:=by simp [beN]
theorem Zy4 (l:List UInt8) (n:Nat):l.foldl (fun n c=>n*256+c.toNat) n=n*256^l.length+beN l:=by
 induction l generalizing n with
 | nil=>simp [beN]
 | cons c l ih =>
  simp only [beN,List.foldl_cons,List.length_cons]
  rw [ih,ih (0*256+c.toNat),Nat.pow_succ,Nat.add_mul]
  have:n*256*256^l.length=n*(256^l.length*256):=by rw [Nat.mul_assoc,Nat.mul_comm 256]
  rw [this,show 0*256+c.toNat=c.toNat by omega];omega
theorem ZsC (l:List UInt8) (c:UInt8):beN (c::l)=c.toNat*256^l.length+beN l:=by
 have:=Zy4 l c.toNat
 simp only [beN,List.foldl_cons,Nat.zero_mul,Nat.zero_add]
 exact this
theorem Zy5 (l:List UInt8) (c:UInt8):leN (l++[c])=leN l+c.toNat*256^l.length:=by
 unfold leN
 rw [List.reverse_append]
 simp only [List.reverse_cons,List.reverse_nil,List.nil_append,List.cons_append]
 rw [ZsC,List.length_reverse,Nat.add_comm]
theorem ZsD (l:List UInt8):beN l<256^l.length:=by
 induction l with
 | nil=>simp [beN]
 | cons c l ih =>
  rw [ZsC,List.length_cons,Nat.pow_succ]
  have:c.toNat<256:=c.toNat_lt
  have h:c.toNat*256^l.length≤255*256^l.length:=Nat.mul_le_mul_right _ zO
  omega
theorem Zw0 (k:Nat) (h:k<8):256^k≤72057594037927936:=by
 have:256^k≤256^7:=Nat.pow_le_pow_right zO zO
 omega
def Zbr (b:List UInt8) (at_ size:Int):AV:=if stB b.length at_ size=true then .tup [.sc (.int .u64 (leN ((b.drop at_.toNat).take size.toNat))),boo true] else .tup [.sc (.int .u64 0),boo false]
theorem ZsE (b:List UInt8) (a m k:Nat) (h:k<m) (h':a+m≤b.length):b.getD (a+k) 0=((b.drop a).take m).getD k 0:=by
 simp only [List.getD,List.getElem?_take,if_pos h,List.getElem?_drop]
theorem Zff [Tabs Tryz.prog] (nl:Bool) (b:List UInt8) (hb:b.length≤1000000) (at_ size:Int):Con Tryz.prog Zhn [.sl nl none (b.map u8),int at_,int size] (Zbr b at_ size):=by
 refine Con.of' mix Tryz.func105 rfl Tryz.ntmps105 Zok Zol zB (by simp only [AV.free,AV.free.freeL,Zag,int,Bool.and_self]) (by unfold Zbr;split <;> rfl) ?_
 unfold Zj7
 repeat (first|refine zS ?_|exact zT)
 refine Zaq _ (.inl ⟨by simp only [AV.free,AV.free.freeL,Zag,Bool.and_self],Zm7 nl b hb at_ size⟩) ?_
 cases hst:stB b.length at_ size with
 | false =>
  have hr:Zbr b at_ size = .tup [.sc (.int .u64 0),boo false]:=by unfold Zbr;rw [hst];rfl
  repeat (first|refine zR @hr ?_|exact zU @hr)
 | true =>
  have hst':=of_decide_eq_true hst
  obtain ⟨a,rfl⟩:∃ a:Nat,at_=a:=⟨at_.toNat,by omega⟩
  obtain ⟨m,rfl⟩:∃ m:Nat,size=m:=⟨size.toNat,by omega⟩
  obtain ⟨w,hw⟩:∃ w,w=(b.drop a).take m:=⟨_,rfl⟩
  have hwl:w.length=m:=by rw [hw];simp;omega
  have hr:Zbr b a m = .tup [.sc (.int .u64 (leN w)),boo true]:=by unfold Zbr;rw [hst,hw];rfl
  repeat (first|refine zS ?_|exact zT)
  refine SWp.loop (α:=Nat) (fun k=>mk 33 0 [(0,.sl nl none (b.map u8)),(1,int a),(8,.sc (.int .u64 (leN (w.take k)))),(15,int m),(16,int k)] [])
   (fun k=>k≤m) (fun k=>m-k) 0 (Nat.zero_le _) (Zal rfl ?_ ?_ ?_) ?_
  ·exact Nat.le_refl _
  ·(first|exact yT|refine yS ?_)
   rfl
  ·(first|exact yT|refine yS ?_)
  ·rintro k hk -
   repeat (first|refine zS ?_|exact zT)
   refine SWp.cond rfl (fun h=>?_) (fun h=>?_)
   ·simp only [decide_eq_true_eq] at h
    have hkm:k<m:=zO
    have hg:b.getD (a+k) 0=w.getD k 0:=by rw [hw];exact ZsE b a m k hkm zO
    have hlt:leN (w.take k)<256^k:=by
     have:=ZsD (w.take k).reverse
     rwa [List.length_reverse,List.length_take,hwl,Nat.min_eq_left zO] at this
    have hp:=Zw0 k zO
    have hc:(w.getD k 0).toNat<256:=(w.getD k 0).toNat_lt
    have e256:2^(8*k)=256^k:=by rw [Nat.pow_mul]
    have hsh:(w.getD k 0).toNat*256^k<18446744073709551616:=by
     have:(w.getD k 0).toNat*256^k≤255*72057594037927936:=Nat.mul_le_mul zO hp
     omega
    have hor:leN (w.take k)|||(w.getD k 0).toNat*256^k=leN (w.take (k+1)):=by
     rw [Zkp w k zO,Zy5,List.length_take,hwl,Nat.min_eq_left zO,Nat.or_comm,←e256,ZCf (by rw [e256];exact hlt),Nat.add_comm]
    have hlt':leN (w.take (k+1))<18446744073709551616:=by
     have:=ZsD (w.take (k+1)).reverse
     rw [List.length_reverse,List.length_take,hwl,Nat.min_eq_left zO,Nat.pow_succ] at this
     have:leN (w.take (k+1))<256^k*256:=this
     omega
    repeat (first|refine zR (ja5 @hg @Zbd @ZhB @e256 @hor) ?_|exact zU (ja5 @hg @Zbd @ZhB @e256 @hor))
    refine At.of (k+1) zO zO rfl rfl (Nat.le_refl _) ?_ ?_
    iterate 2 (case _=>(first|exact yT|refine yS ?_))
   ·simp only [decide_eq_false_iff_not] at h
    obtain rfl:k=m:=zO
    have hwt:w.take k=w:=List.take_of_length_le zO
    repeat (first|refine zR (ja2 @hwt @hr) ?_|exact zU (ja2 @hwt @hr))
theorem Zp2 (n:Nat) (at_ size:Int):(stB n at_ size=false∧(size<1∨8<size∨at_<0∨(n:Int)<at_∨(n:Int)-at_<size))∨(stB n at_ size=true∧¬ size<1∧¬ 8<size∧¬ at_<0∧¬ (n:Int)<at_∧¬ (n:Int)-at_<size):=by
 unfold stB
 by_cases h:1≤size∧size≤8∧0≤at_∧at_≤n-size
 ·exact .inr ⟨decide_eq_true h,by omega,by omega,by omega,by omega,by omega⟩
 ·exact .inl ⟨decide_eq_false h,by omega⟩
end Go.Proofs.YtfplkgciebjehabGreatDoor.Aw
namespace Go.Proofs
open Go.Shelf
open Go.RowKit in
set_option linter.defProp false
set_option maxRecDepth 100000
def Tryz.lays217_ren:Go.Shelf.Ren:=⟨fun | 217=>100 | 266=>135 | n=>n,fun | 9=>9 | 5=>5 | 3=>3 | n=>n,fun | n=>n⟩
theorem Tryz.lays217:Go.Proofs.Lays.n217 Tryz.prog Tryz.lays217_ren:={
 mixed:=by kernel_rfl
 f217:=Tryz.func100.trans (congrArg some (by kernel_rfl))
 f266:=Tryz.func135.trans (congrArg some (by kernel_rfl))
 t3:=Tryz.underlying3
 a3:=Tryz.isAgg3
 z3:=Tryz.sizeOf3
 v3:=Tryz.zeroValue3
 t5:=Tryz.underlying5
 a5:=Tryz.isAgg5
 z5:=Tryz.sizeOf5
 v5:=Tryz.zeroValue5
 t9:=Tryz.underlying9
 a9:=Tryz.isAgg9
 z9:=Tryz.sizeOf9
 v9:=Tryz.zeroValue9 }
open Go.RowKit Go.Lib in
theorem Tryz.stringslite_IndexByte (s:ByteArray) (c:Int) (w:World) :
  Calls Tryz.prog 100 #[.string s,.int .u8 c] w fun e w'=>e = .returned (.int .i64 (Lib.indexByte s.data.toList c.toNat.toUInt8))∧w'=w:=Any.stringslite_IndexByte Tryz.lays217 s c w
def Tryz.lays187_ren:Go.Shelf.Ren:=⟨fun | 187=>138 | 255=>144 | n=>n,fun | 37=>22 | 5=>5 | 3=>3 | n=>n,fun | n=>n⟩
theorem Tryz.lays187:Go.Proofs.Lays.n187 Tryz.prog Tryz.lays187_ren:={
 mixed:=by kernel_rfl
 f187:=Tryz.func138.trans (congrArg some (by kernel_rfl))
 f255:=Tryz.func144.trans (congrArg some (by kernel_rfl))
 t3:=Tryz.underlying3
 a3:=Tryz.isAgg3
 z3:=Tryz.sizeOf3
 v3:=Tryz.zeroValue3
 t5:=Tryz.underlying5
 a5:=Tryz.isAgg5
 z5:=Tryz.sizeOf5
 v5:=Tryz.zeroValue5
 t37:=Tryz.underlying22
 a37:=Tryz.isAgg22
 z37:=Tryz.sizeOf22
 v37:=Tryz.zeroValue22 }
theorem Tryz.bytes_IndexByte (b o n c:Nat) (xs:List Int) (cv:Int) (w:World) (hx:xs.length=n) (hc:∀ i,i<n→w.cell? ⟨b,o+i,none⟩=some (.int .u8 (xs.getD i 0))) :
  Calls Tryz.prog 138 #[.slice (some ⟨b,o,none⟩) n c,.int .u8 cv] w fun e w'=>e = .returned (.int .i64 (Lib.indexByte (Lib.bytesOf xs) cv.toNat.toUInt8))∧w'=w:=Any.bytes_IndexByte Tryz.lays187 b o n c xs cv w hx hc
theorem Tryz.bytes_IndexByte_nil (cv:Int) (w:World) :
  Calls Tryz.prog 138 #[.slice none 0 0,.int .u8 cv] w fun e w'=>e = .returned (.int .i64 (-1))∧w'=w:=Any.bytes_IndexByte_nil Tryz.lays187 cv w
end Go.Proofs
namespace Go.Proofs.YtfplkgciebjehabGreatDoor.Aw
open Go
set_option linter.defProp false
set_option maxRecDepth 100000
set_option linter.unusedSimpArgs false
set_option linter.unusedVariables false
theorem Zk5 [Tabs Tryz.prog] (s:ByteArray) (c:UInt8):Con Tryz.prog ZdJ [.sc (.string s),.sc (.int .u8 c.toNat)] (.sc (.int .i64 (Lib.indexByte s.data.toList c))):=by
 refine Con.same (xs:=[.string s,.int .u8 c.toNat]) fun w=>?_
 have:=Tryz.stringslite_IndexByte s c.toNat w
 rw [show ((c.toNat:Int).toNat.toUInt8)=c by simp] at this
 exact this
theorem ZjG [Tabs Tryz.prog] (s:ByteArray) (c:UInt8):Con Tryz.prog ZfA [.sc (.string s),.sc (.int .u8 c.toNat)] (.sc (.int .i64 (Lib.indexByte s.data.toList c))):=by
 refine Con.of' mix Tryz.func55 rfl Tryz.ntmps55 Zje Zjf zB rfl rfl ?_
 unfold ZfB
 repeat (first|refine zS ?_|exact zT)
 refine Zaq _ (.inl ⟨rfl,Zk5 s c⟩) ?_
 repeat (first|refine zS ?_|exact zT)
theorem ZCO {G:Gh} {w:World}:∀ {b:List UInt8} {vs:List Value},RdL G w (b.map u8) vs→vs=b.map fun c=>Value.int .u8 (c.toNat:Int)
 | [],vs,h=>by simpa [RdL] using h
 | c::b,vs,h=>by
  simp only [List.map_cons,RdL] at h
  obtain ⟨v,r,rfl,h1,h2⟩:=h
  rw [ZCO h2]
  simp only [u8,Rd] at h1
  rw [h1];rfl
theorem Zuw {b:List UInt8}:Lib.bytesOf (b.map fun c=>(c.toNat:Int))=b:=by
 simp [Lib.bytesOf,Function.comp_def]
theorem Zhe [Tabs Tryz.prog] (nl:Bool) (b:List UInt8) (hb:b≠[]) (c:UInt8):Con Tryz.prog ZcB [.sl nl none (b.map u8),.sc (.int .u8 c.toNat)] (.sc (.int .i64 (Lib.indexByte b c))):=by
 intro w S vs _ hS hr
 simp only [RdL] at hr
 obtain ⟨v,r,rfl,h1,v2,r2,rfl,h2,rfl⟩:=hr
 simp only [Rd] at h1 h2
 subst h2
 obtain ⟨base,len,cap,us,rfl,rfl,hlc,hus,_,hbc,hcell⟩:=h1
 have hus:=ZCO hus
 subst hus
 have hne:(b.map fun c=>Value.int .u8 (c.toNat:Int))≠[]:=by simpa using hb
 cases base with
 | none =>
  have:=hbc rfl
  rw [this,List.length_map] at hlc
  exact absurd (List.eq_nil_of_length_eq_zero zO) hb
 | some a =>
  obtain ⟨hsp,_,hat⟩:=hcell a rfl hne
  obtain ⟨ab,ao,asp⟩:=a
  simp only at hsp hat
  subst hsp
  have hc:=Tryz.bytes_IndexByte ab ao b.length cap (b.map fun c=>(c.toNat:Int)) c.toNat w zB (fun i hi=>by
   have hx:(b.map fun c=>Value.int .u8 (c.toNat:Int))[i]? = some (.int .u8 ((b[i]).toNat:Int)):=by simp [hi]
   have:=(hat i _ hx).2 0 (.int .u8 ((b[i]).toNat:Int)) rfl
   simp only [esz,Nat.mul_one,Nat.add_zero] at this
   rw [this]
   simp [List.getD,hi])
  rw [Zuw,show ((c.toNat:Int).toNat.toUInt8)=c by simp] at hc
  rw [List.length_map]
  refine Calls.mono hc ?_
  rintro e w' ⟨rfl,rfl⟩
  exact ⟨_,S,rfl,Keep.refl _ _ _,fun _ h=>h,fun _ h=>.inl h,hS,rfl,by simp [Rd]⟩
theorem Zp3 [Tabs Tryz.prog] (n:Nat) (h0:0<n) (hn:n≤10000000):HCon Tryz.prog Zeu [.sc (.slice none 0 0),int n] [] (.own 22 1 none 0 0) [(22,1,.row false [])] 2:=by
 refine HCon.of' mix Tryz.func103 rfl Tryz.ntmps103 Zh8 Zh9 zB (by simp [AV.gl,AV.gl.glL,int]) zB ?_
 unfold Zex
 have d1:decide ((n:Int)<0)=false:=decide_eq_false zO
 have d2:decide ((n:Int)>0)=true:=decide_eq_true zO
 have d3:(n==0)=false:=by simp;omega
 iterate 16 (first|refine zR (ja3 @d1 @d2 @d3) ?_|exact zU (ja3 @d1 @d2 @d3))
 refine SWp.cut 22 0 (g:=1) (nl:=false) (cells:=(List.replicate n [AV.sc (.int .u8 0)]).flatten) yT ?_
 repeat (first|refine zS ?_|exact zT)
theorem ZlL [Tabs Tryz.prog] (n1 n2 n3:Bool) (X Y Z:List UInt8) (n:Nat) (hn:n=X.length+Y.length+Z.length) (hl:n≤10000000) (h0:0<X.length) :
  HCon Tryz.prog ZdI [.sl false none [.sl n1 none (X.map u8),.sl n2 none (Y.map u8),.sl n3 none (Z.map u8)]] [] (.own 1022 5 none 0 n) [(1022,5,.row false ((X++(Y++Z)).map u8))] 10:=by
 refine HCon.of' mix Tryz.func57 rfl Tryz.ntmps57 Zhr Zhs zB (by simp only [AV.gl,AV.gl.glL,and_true];exact ⟨Zan _ _ Zag,Zan _ _ Zag,Zan _ _ Zag⟩) zB ?_
 unfold ZdV
 obtain ⟨m,hm⟩:∃ m,m=X.length+Y.length:=⟨_,rfl⟩
 have hc:(X.length:Int)+(Y.length:Int)=(m:Int):=zO
 have hc2:(m:Int)+(Z.length:Int)=(n:Int):=zO
 have d1:decide ((X.length:Int)<0)=false:=decide_eq_false zO
 have d2:decide ((m:Int)<0)=false:=decide_eq_false zO
 have d3:decide ((n:Int)<0)=false:=decide_eq_false zO
 repeat (first|refine zS ?_|exact zT)
 refine SWp.unroll ?_
 repeat (first|refine zR (ja6 @d1 @hc @d2 @hc2 @d3 @List.length_map.{0,0}) ?_|exact zU (ja6 @d1 @hc @d2 @hc2 @d3 @List.length_map.{0,0}))
 refine Zab [] 1000 (Zp3 n zO zO) zB zB ?_ ?_ ?_
 iterate 2 (case _=>(first|exact yT|refine yS ?_))
 repeat (first|refine zS ?_|exact zT)
 have e1:X.length≤70368744177664:=zO
 have e2:X.length+Y.length≤70368744177664:=zO
 have hn2:X.length+Y.length+Z.length=n:=hn.symm
 refine SWp.unroll ?_
 repeat (first|refine zR (ja3 @List.length_append.{0} @List.length_map.{0,0} @hn2) ?_|exact zU (ja3 @List.length_append.{0} @List.length_map.{0,0} @hn2))
theorem ZrL {hp:Hp}:∀ {l:List UInt8},frz.frzL hp (l.map u8)=l.map u8
 | []=>rfl
 | c::l=>by simp only [List.map_cons,frz.frzL];rw [ZrL];rfl
def tlB (b:List UInt8):List UInt8:=leB (Zdr 0 b).toNat 4++leB b.length 4
theorem ZBI {n:Nat}:leB n 4=[UInt8.ofNat n,UInt8.ofNat (n / 256),UInt8.ofNat (n / 65536),UInt8.ofNat (n / 16777216)]:=by
 simp [leB,List.range_succ]
theorem ZaQ {n:Nat}:(leB n 4).length=4:=by simp [leB]
theorem ZDx {n:Nat}:leR n 4 = .sl false none ((leB n 4).map u8):=rfl
theorem Zp4 [Tabs Tryz.prog] (nl:Bool) (b:List UInt8) (hb:b.length≤1000000):Con Tryz.prog Zjd [.sl nl none (b.map u8)] (.agg ((tlB b).map u8)):=by
 refine Con.of' mix Tryz.func56 rfl Tryz.ntmps56 Zrl Zrm zB (by simp only [AV.free,AV.free.freeL,Zag,Bool.and_self]) (by simp only [AV.free,Zag]) ?_
 unfold Zmx
 have hc:=Zip nl b hb
 have hlt:=(Zdr 0 b).toNat_lt
 obtain ⟨c,hcc⟩:∃ c,c=Zdr 0 b:=⟨_,rfl⟩
 have ht:tlB b=leB c.toNat 4++leB b.length 4:=by rw [hcc];rfl
 rw [←hcc] at hc hlt
 have l1:=ZiA c.toNat zO 4 zO zO
 have l2:=ZiA b.length zO 4 zO zO
 rw [ZDx] at l1 l2
 rw [ht]
 have hL1:(leB c.toNat 4).length=4:=ZaQ
 have hL2:(leB b.length 4).length=4:=ZaQ
 obtain ⟨X,hX⟩:∃ X,X=leB c.toNat 4:=⟨_,rfl⟩
 obtain ⟨Y,hY⟩:∃ Y,Y=leB b.length 4:=⟨_,rfl⟩
 rw [←hX] at l1 hL1 ⊢
 rw [←hY] at l2 hL2 ⊢
 obtain ⟨Z,hZ⟩:∃ Z,Z=X++Y:=⟨_,rfl⟩
 have hZl:Z.length=8:=by rw [hZ,List.length_append];omega
 have hZm:X.map u8++Y.map u8=Z.map u8:=by rw [hZ,List.map_append]
 rw [←hZ]
 have hwr:IntKind.u64.wrap (b.length:Int)=(b.length:Int):=Zbd zO zO
 have hwc:IntKind.u64.wrap (c.toNat:Int)=(c.toNat:Int):=Zbd zO zO
 have t1:(X.map u8).take 8=X.map u8:=List.take_of_length_le (by simp;omega)
 have t2:(Y.map u8).take 4=Y.map u8:=List.take_of_length_le (by simp;omega)
 repeat (first|refine zS ?_|exact zT)
 refine Zaq _ (.inl ⟨by simp only [AV.free,AV.free.freeL,Zag,Bool.and_self],hc⟩) ?_
 repeat (first|refine zR @hwc ?_|exact zU @hwc)
 refine Zaq _ (.inl ⟨rfl,l1⟩) ?_
 repeat (first|refine zR (ja4 @hL1 @List.length_map.{0,0} @t1 @hwr) ?_|exact zU (ja4 @hL1 @List.length_map.{0,0} @t1 @hwr))
 refine Zaq _ (.inl ⟨rfl,l2⟩) ?_
 have t3:(X.map u8).take 4=X.map u8:=List.take_of_length_le (by simp;omega)
 have t5:∀ R,(X.map u8++R).take 4=X.map u8:=fun R=>by rw [List.take_append_of_le_length (by simp;omega)];exact t3
 have t6:∀ a b c d,(X.map u8++[a,b,c,d]).drop 8=([]:List AV):=fun a b c d=>List.drop_of_length_le (by simp;omega)
 have t4:(Z.map u8).take 8=Z.map u8:=List.take_of_length_le (by simp;omega)
 repeat (first|refine zR (ja8 @hL1 @hL2 @List.length_map.{0,0} @t2 @t3 @t4 @t5 (ja5 @t6 @List.length_append.{0} @hZm @hZl @ZrL)) ?_|exact zU (ja8 @hL1 @hL2 @List.length_map.{0,0} @t2 @t3 @t4 @t5 (ja5 @t6 @List.length_append.{0} @hZm @hZl @ZrL)))
def hdB (nm:List UInt8) (mt:Nat):List UInt8:=31::139::8::(if nm=[] then 0 else 8)::(leB mt 4++(0::3::(if nm=[] then [] else nm++[0])))
theorem Zw1 [Tabs Tryz.prog] (nm:ByteArray) (hn:nm.data.toList.length≤200) (mt:Nat) (hm:mt<4294967296) (nl:Bool) (b:List UInt8):Con Tryz.prog Zmu [.agg [.sc (.string nm),int mt,.sl nl none (b.map u8)]] (.sl false none ((hdB nm.data.toList mt).map u8)):=by
 refine Con.of' mix Tryz.func58 rfl Tryz.ntmps58 Zrj Zrk zB (by simp only [AV.free,AV.free.freeL,Zag,int,Bool.and_self]) (by simp only [AV.free,Zag]) ?_
 unfold Zmw
 have l1:=ZiA mt zO 4 zO zO
 rw [ZDx] at l1
 have hL1:(leB mt 4).length=4:=ZaQ
 obtain ⟨X,hX⟩:∃ X,X=leB mt 4:=⟨_,rfl⟩
 rw [hdB,←hX]
 rw [←hX] at l1 hL1
 have hwc:IntKind.u64.wrap (mt:Int)=(mt:Int):=Zbd zO zO
 by_cases c:nm.data.toList=[]
 ·have d:decide (nm.data.toList=(⟨#[]⟩:ByteArray).data.toList)=true:=decide_eq_true c
  rw [if_pos c,if_pos c]
  repeat (first|refine zR (ja2 @d @hwc) ?_|exact zU (ja2 @d @hwc))
  refine Zaq _ (.inl ⟨rfl,l1⟩) ?_
  repeat (first|refine zR (ja3 @d @hL1 @List.length_map.{0,0}) ?_|exact zU (ja3 @d @hL1 @List.length_map.{0,0}))
  rw [List.take_of_length_le (by simp;omega)]
 ·have d:decide (nm.data.toList=(⟨#[]⟩:ByteArray).data.toList)=false:=decide_eq_false c
  rw [if_neg c,if_neg c]
  repeat (first|refine zR (ja2 @d @hwc) ?_|exact zU (ja2 @d @hwc))
  refine Zaq _ (.inl ⟨rfl,l1⟩) ?_
  repeat (first|refine zR (ja3 @d @hL1 @List.length_map.{0,0}) ?_|exact zU (ja3 @d @hL1 @List.length_map.{0,0}))
  rw [List.take_of_length_le (by simp;omega)]
theorem ZrM {nm:List UInt8} {mt:Nat}:10≤(hdB nm mt).length∧(hdB nm mt).length≤11+nm.length:=by
 rw [hdB]
 simp only [List.length_cons,List.length_append,ZaQ]
 by_cases c:nm=[]
 ·simp only [if_pos c,List.length_nil];omega
 ·simp only [if_neg c,List.length_append,List.length_cons,List.length_nil];omega
theorem Zf3 [Tabs Tryz.prog] (nl:Bool) (b:List UInt8) (hl:b.length≤1000000) (i n:Nat) (hn:i+n≤b.length) :
  HCon Tryz.prog ZaR [.op 1000 0 0,int (n:Int)] [.row false (rdR nl b i)] (.tup [.sl nl none (((b.drop i).take n).map u8),int 0]) [(1000,0,.row false (rdR nl b (i+n)))] 1:=by
 refine HCon.of' mix Tryz.func104 rfl Tryz.ntmps104 ZdQ ZdR zB (by simp [AV.gl,AV.gl.glL,int]) Zcw ?_
 unfold Zcb
 have d1:decide ((b.length:Int)-(i:Int)<(n:Int))=false:=decide_eq_false zO
 have hdt:(b.take (i+n)).drop i=(b.drop i).take n:=by rw [List.drop_take];congr 1;omega
 have hc:((i:Int)+(n:Int)).toNat=i+n:=zO
 have he:((i+n:Nat):Int)=(i:Int)+(n:Int):=zO
 repeat (first|refine zR (ja6 @rdR.eq_1 @d1 @hc @hdt @he @List.length_map.{0,0}) ?_|exact zU (ja6 @rdR.eq_1 @d1 @hc @hdt @he @List.length_map.{0,0}))
theorem ZmN [Tabs Tryz.prog] (nl:Bool) (b:List UInt8) (hl:b.length≤1000000) (i k:Nat) (hk:Lib.indexByte (b.drop i) 0=(k:Int)) (hn:i+k<b.length) :
  HCon Tryz.prog Zb6 [.op 1000 0 0] [.row false (rdR nl b i)] (.tup [.sl nl none (((b.drop i).take k).map u8),int 0]) [(1000,0,.row false (rdR nl b (i+(k+1))))] 1:=by
 refine HCon.of' mix Tryz.func108 rfl Tryz.ntmps108 Zgo Zgp zB (by simp [AV.gl,AV.gl.glL,int]) Zcw ?_
 unfold ZdU
 have p1:=Zhe nl (b.drop i) (fun e=>by have:=congrArg List.length e;rw [List.length_drop,List.length_nil] at this;omega) 0
 rw [hk] at p1
 have d1:decide ((k:Int)<0)=false:=decide_eq_false zO
 have hdt:(b.take (i+k)).drop i=(b.drop i).take k:=by rw [List.drop_take];congr 1;omega
 have hc:((i:Int)+(k:Int)).toNat=i+k:=zO
 have he:((i+(k+1):Nat):Int)=(i:Int)+((k:Int)+1):=zO
 have htl:b.take b.length=b:=List.take_length
 repeat (first|refine zR (ja3 @rdR.eq_1 @List.length_map.{0,0} @htl) ?_|exact zU (ja3 @rdR.eq_1 @List.length_map.{0,0} @htl))
 refine Zaq _ (.inl ⟨by simp only [AV.free,AV.free.freeL,Zag,Bool.and_self],p1⟩) ?_
 repeat (first|refine zR (ja6 @rdR.eq_1 @d1 @hc @hdt @he @List.length_map.{0,0}) ?_|exact zU (ja6 @rdR.eq_1 @d1 @hc @hdt @he @List.length_map.{0,0}))
theorem Zp5 [Tabs Tryz.prog] (nl:Bool) (b:List UInt8) (hl:b.length≤1000000) (i k:Nat) (hk:Lib.indexByte (b.drop i) 0=(k:Int)) (hn:i+k<b.length) (h2:k≤200) (nm:List UInt8) (hnm:(b.drop i).take k=nm) :
  HCon Tryz.prog Zb5 [.op 1000 0 0] [.row false (rdR nl b i)] (.tup [str nm,int 0]) [(1000,0,.row false (rdR nl b (i+(k+1))))] 5:=by
 refine HCon.of' mix Tryz.func107 rfl Tryz.ntmps107 ZdS ZdT zB (by simp [AV.gl,AV.gl.glL,int]) Zcw ?_
 unfold Zcc
 have p1:=ZmN nl b hl i k hk hn
 rw [hnm] at p1
 have hnl:nm.length=k:=by rw [←hnm,List.length_take,List.length_drop];omega
 have d1:decide ((200:Int)<(k:Int))=false:=decide_eq_false zO
 repeat (first|refine zS ?_|exact zT)
 refine Zab [(1000,0)] 2000 p1 zB zB ?_ ?_ ?_
 iterate 2 (case _=>(first|exact yU @rdR.eq_1|refine yR @rdR.eq_1 ?_))
 repeat (first|refine zR (ja4 @rdR.eq_1 @d1 @List.length_map.{0,0} @hnl) ?_|exact zU (ja4 @rdR.eq_1 @d1 @List.length_map.{0,0} @hnl))
theorem Zux [Tabs Tryz.prog] (nl:Bool) (b:List UInt8) (i:Nat) :
  HCon Tryz.prog Zbz [.op 1000 0 0,.sc (.int .u8 0)] [.row false (rdR nl b i)] (.tup [str [],int 0]) [(1000,0,.row false (rdR nl b i))] 10:=by
 refine HCon.of' mix Tryz.func60 rfl Tryz.ntmps60 ZdM ZdN zB (by simp [AV.gl,AV.gl.glL,int]) Zcw ?_
 unfold Zca
 repeat (first|refine zR @rdR.eq_1 ?_|exact zU @rdR.eq_1)
theorem Zuy [Tabs Tryz.prog] (nl:Bool) (b:List UInt8) (hl:b.length≤1000000) (i k:Nat) (hk:Lib.indexByte (b.drop i) 0=(k:Int)) (hn:i+k<b.length) (h2:k≤200) (nm:List UInt8) (hnm:(b.drop i).take k=nm) :
  HCon Tryz.prog Zbz [.op 1000 0 0,.sc (.int .u8 8)] [.row false (rdR nl b i)] (.tup [str nm,int 0]) [(1000,0,.row false (rdR nl b (i+(k+1))))] 10:=by
 refine HCon.of' mix Tryz.func60 rfl Tryz.ntmps60 ZdM ZdN zB (by simp [AV.gl,AV.gl.glL,int]) Zcw ?_
 unfold Zca
 have p1:=Zp5 nl b hl i k hk hn h2 nm hnm
 repeat (first|refine zS ?_|exact zT)
 refine Zab [(1000,0)] 2000 p1 zB zB ?_ ?_ ?_
 iterate 2 (case _=>(first|exact yU @rdR.eq_1|refine yR @rdR.eq_1 ?_))
 repeat (first|refine zR @rdR.eq_1 ?_|exact zU @rdR.eq_1)
theorem ZBk {n:Nat} (h:n<4294967296):leN (leB n 4)=n:=by
 rw [ZBI]
 simp [leN,beN]
 omega
theorem ZCP {nm:List UInt8} {mt:Nat} {R:List UInt8}:((hdB nm mt++R).drop 0).take 10=31::139::8::(if nm=[] then 0 else 8)::(leB mt 4++[0,3]):=by
 rw [List.drop_zero,hdB,ZBI]
 rfl
theorem Zw2 [Tabs Tryz.prog] (nl:Bool) (nm:List UInt8) (mt:Nat) (hm:mt<4294967296) (R b:List UInt8) (hb:b=hdB nm mt++R) (hl:b.length≤1000000) (fl:UInt8) (hfl:fl=if nm=[] then 0 else 8) :
  HCon Tryz.prog Zb4 [.op 1000 0 0] [.row false (rdR nl b 0)] (.tup [u8 fl,int (mt:Int),int 0]) [(1000,0,.row false (rdR nl b 10))] 5:=by
 refine HCon.of' mix Tryz.func59 rfl Tryz.ntmps59 ZdK ZdL zB (by simp [AV.gl,AV.gl.glL,int]) Zcw ?_
 unfold Zb9
 have hlen:=ZrM (nm:=nm) (mt:=mt)
 have p1:=Zf3 nl b hl 0 10 (by rw [hb,List.length_append];omega)
 have hw:(b.drop 0).take 10=31::139::8::fl::(leB mt 4++[0,3]):=by rw [hb,hfl];exact ZCP
 have p2:=Zff nl (31::139::8::fl::(leB mt 4++[0,3])) (by simp [leB]) 4 4
 have hr:Zbr (31::139::8::fl::(leB mt 4++[0,3])) 4 4 = .tup [.sc (.int .u64 (mt:Int)),boo true]:=by
  have e1:((31::139::8::fl::(leB mt 4++[0,3])).drop 4).take 4=leB mt 4:=by rw [ZBI];rfl
  have e2:stB (31::139::8::fl::(leB mt 4++[0,3])).length 4 4=true:=by
   simp [leB,stB]
  unfold Zbr
  rw [if_pos e2,show ((4:Int).toNat)=4 from rfl,e1,ZBk hm]
 rw [hr] at p2
 rw [hw] at p1
 obtain ⟨V,hV⟩:∃ V,V=leB mt 4++[0,3]:=⟨_,rfl⟩
 have hVl:V.length=6:=by rw [hV,List.length_append,ZaQ];rfl
 rw [←hV] at p1 p2
 have hwr:IntKind.i64.wrap (mt:Int)=(mt:Int):=Zch zO zO
 have hf8:fl=0∨fl=8:=by by_cases c:nm=[];exact .inl (by rw [hfl,if_pos c]);exact .inr (by rw [hfl,if_neg c])
 obtain ⟨F,hF⟩:∃ F:Int,F=(fl.toNat:Int):=⟨_,rfl⟩
 clear hfl hw hr hb hlen
 rcases hf8 with rfl | rfl
 all_goals
  repeat (first|refine zS ?_|exact zT)
  refine Zab [(1000,0)] 2000 p1 zB zB ?_ ?_ ?_
  iterate 2 (case _=>(first|exact yU @rdR.eq_1|refine yR @rdR.eq_1 ?_))
  repeat (first|refine zR (ja3 @rdR.eq_1 @hVl @List.length_map.{0,0}) ?_|exact zU (ja3 @rdR.eq_1 @hVl @List.length_map.{0,0}))
  refine Zaq _ (.inl ⟨by simp only [AV.free,AV.free.freeL,Zag,Bool.and_self],p2⟩) ?_
  repeat (first|refine zR (ja4 @rdR.eq_1 @hVl @hwr @List.length_map.{0,0}) ?_|exact zU (ja4 @rdR.eq_1 @hVl @hwr @List.length_map.{0,0}))
theorem Zp6 [Tabs Tryz.prog] (nl:Bool) (b:List UInt8) (hl:b.length≤1000000) (i:Nat) (R:List UInt8) (hR:b.drop i=R) (h4:R.length≤4096) (hi:i≤b.length) (room:Int) (nd:Bool) (D:List UInt8) (used:Nat)
  (hI:Con Tryz.prog Za5 [.sl nl none (R.map u8),int room] (.tup [.sl nd none (D.map u8),int (used:Int),int 0])) (hu:used≤R.length) :
  HCon Tryz.prog Zb3 [.op 1000 0 0,int room] [.row false (rdR nl b i)] (.tup [.sl nd none (D.map u8),int 0]) [(1000,0,.row false (rdR nl b (i+used)))] 5:=by
 refine HCon.of' mix Tryz.func61 rfl Tryz.ntmps61 Zgk Zgl zB (by simp [AV.gl,AV.gl.glL,int]) Zcw ?_
 unfold ZdO
 have hRl:R.length=b.length-i:=by rw [←hR,List.length_drop]
 have htl:b.take b.length=b:=List.take_length
 have htR:R.take R.length=R:=List.take_length
 have d1:((4096:Int)<(R.length:Int))=False:=eq_false zO
 have d2:((R.length:Int)<4096)=True∨R.length=4096:=by
  by_cases c:R.length=4096
  ·exact .inr c
  ·exact .inl (eq_true zO)
 have hm:(if (R.length:Int)<4096 then (R.length:Int) else 4096)=(R.length:Int):=by split <;> omega
 have he:((i+used:Nat):Int)=(i:Int)+(used:Int):=zO
 repeat (first|refine zR (ja4 @rdR.eq_1 @List.length_map.{0,0} @htl hR) ?_|exact zU (ja4 @rdR.eq_1 @List.length_map.{0,0} @htl hR))
 refine SWp.unroll ?_
 repeat (first|refine zR (ja4 @rdR.eq_1 @List.length_map.{0,0} @htR @hm) ?_|exact zU (ja4 @rdR.eq_1 @List.length_map.{0,0} @htR @hm))
 refine Zaq _ (.inl ⟨by simp only [AV.free,AV.free.freeL,Zag,int,Bool.and_self],hI⟩) ?_
 repeat (first|refine zR (ja3 @rdR.eq_1 @List.length_map.{0,0} @he) ?_|exact zU (ja3 @rdR.eq_1 @List.length_map.{0,0} @he))
theorem ZCQ:∀ {t:List UInt8},t.length=8→ZgI (.agg #[.int .u8 0,.int .u8 0,.int .u8 0,.int .u8 0,.int .u8 0,.int .u8 0,.int .u8 0,.int .u8 0]) (.agg (t.map u8))=True
 | [a,b,c,d,e,f,g,h],_=>by
  have:=a.toNat_lt;have:=b.toNat_lt;have:=c.toNat_lt;have:=d.toNat_lt
  have:=e.toNat_lt;have:=f.toNat_lt;have:=g.toNat_lt;have:=h.toNat_lt
  have k1:IntKind.u8.min=0:=rfl
  have k2:IntKind.u8.max=255:=rfl
  refine eq_true ?_
  simp only [ZgI,Zo2,Znb,List.map_cons,List.map_nil,u8,k1,k2,and_true,true_and]
  omega
theorem ZBl {a b:List UInt8} (h:a.map u8=b.map u8):a=b:=(List.map_inj_right (fun x y e=>by simp only [u8,AV.sc.injEq,Value.int.injEq,true_and] at e;exact UInt8.toNat_inj.1 zO)).1 h
theorem ZnM [Tabs Tryz.prog] (nl:Bool) (b:List UInt8) (hl:b.length≤1000000) (i:Nat) (hi:i+8≤b.length) (nd:Bool) (D:List UInt8) (hD:D.length≤1000000) (t:List UInt8) (ht:(b.drop i).take 8=t) (e:Int) (he:e=if t=tlB D then 0 else 5) :
  HCon Tryz.prog ZdH [.op 1000 0 0,.sl nd none (D.map u8)] [.row false (rdR nl b i)] (int e) [(1000,0,.row false (rdR nl b (i+8)))] 10:=by
 refine HCon.of' mix Tryz.func62 rfl Tryz.ntmps62 Zgm Zgn zB (by simp only [AV.gl,AV.gl.glL,and_true];exact ⟨by omega,Zan _ _ Zag⟩) Zcw ?_
 unfold ZdP
 have p1:=Zf3 nl b hl i 8 hi
 rw [ht] at p1
 have htl:t.length=8:=by rw [←ht,List.length_take,List.length_drop];omega
 have p2:=Zp4 nd D hD
 have hTl:(tlB D).length=8:=by rw [tlB,List.length_append,ZaQ,ZaQ]
 have l1:=ZCQ htl
 have l2:=ZCQ hTl
 have hq:eqB (.agg (t.map u8)) (.agg ((tlB D).map u8))=decide (t=tlB D):=by
  by_cases c:t=tlB D
  ·rw [decide_eq_true c];exact ZzL (by rw [c])
  ·rw [decide_eq_false c]
   exact ZBM (fun e=>c (ZBl (by injection e)))
 obtain ⟨T,hT⟩:∃ T,T=tlB D:=⟨_,rfl⟩
 rw [←hT] at p2 hTl l2 hq he
 have t8:(t.map u8).take 8=t.map u8:=List.take_of_length_le (by simp;omega)
 have hc:((i+8:Nat):Int)=(i:Int)+8:=zO
 repeat (first|refine zS ?_|exact zT)
 refine Zab [(1000,0)] 2000 p1 zB zB ?_ ?_ ?_
 iterate 2 (case _=>(first|exact yU @rdR.eq_1|refine yR @rdR.eq_1 ?_))
 repeat (first|refine zR (ja4 @rdR.eq_1 @htl @t8 @List.length_map.{0,0}) ?_|exact zU (ja4 @rdR.eq_1 @htl @t8 @List.length_map.{0,0}))
 refine Zaq _ (.inl ⟨by simp only [AV.free,AV.free.freeL,Zag,Bool.and_self],p2⟩) ?_
 by_cases c:t=T
 ·rw [decide_eq_true c] at hq
  rw [if_pos c] at he
  subst he
  repeat (first|refine zR (ja7 @rdR.eq_1 @hq @l1 @l2 @htl @t8 @List.length_map.{0,0}) ?_|exact zU (ja7 @rdR.eq_1 @hq @l1 @l2 @htl @t8 @List.length_map.{0,0}))
 ·rw [decide_eq_false c] at hq
  rw [if_neg c] at he
  subst he
  repeat (first|refine zR (ja7 @rdR.eq_1 @hq @l1 @l2 @htl @t8 @List.length_map.{0,0}) ?_|exact zU (ja7 @rdR.eq_1 @hq @l1 @l2 @htl @t8 @List.length_map.{0,0}))
theorem Zuz {nm R:List UInt8} (h:Lib.indexByte nm 0<0):Lib.indexByte (nm++0::R) 0=(nm.length:Int):=by
 refine Zm6 _ _ _ zB (by simp [List.getD]) fun k hk e=>?_
 have he:nm.getD k 0=0:=by simpa [List.getD,List.getElem?_append_left hk] using e
 have:∃ j:Nat,Lib.indexByte nm 0=(j:Int):=by
  have key:∀ (l:List UInt8) (k:Nat),k<l.length→l.getD k 0=0→0≤Lib.indexByte l 0:=by
   intro l
   induction l with
   | nil=>intro k hk;simp at hk
   | cons x l ih =>
    intro k hk e
    simp only [Lib.indexByte]
    split
    ·omega
    ·rename_i hx
     cases k with
     | zero=>simp only [List.getD_cons_zero] at e;subst e;simp at hx
     | succ k =>
      have:=ih k (by simpa using hk) (by simpa using e)
      split
      ·rename_i h1
       have h1:Lib.indexByte l 0=-1:=by simpa using h1
       omega
      ·omega
  exact ⟨(Lib.indexByte nm 0).toNat,by have:=key nm k hk he;omega⟩
 obtain ⟨j,hj⟩:=this
 omega
def Zxv (ok:Bool) (nm:List UInt8) (mt:Nat) (nd:Bool) (D:List UInt8):AV:=if ok then .tup [.agg [str nm,int (mt:Int),.sl nd none (D.map u8)],int 0] else .tup [.agg [str [],int 0,.sc (.slice none 0 0)],int 5]
def BI7:=ja2 @rdR.eq_1 @Zxv.eq_1
set_option maxHeartbeats 1000000 in
theorem ZrN [Tabs Tryz.prog] (nl:Bool) (nm:List UInt8) (hn:nm.length≤200) (hz:Lib.indexByte nm 0<0) (mt:Nat) (hm:mt<4294967296) (R b:List UInt8) (hb:b=hdB nm mt++R) (hl:b.length≤1000000) (room:Int) (nd:Bool) (D:List UInt8) (hD:D.length≤1000000) (used:Nat)
  (p3:HCon Tryz.prog Zb3 [.op 1000 0 0,int room] [.row false (rdR nl b (hdB nm mt).length)] (.tup [.sl nd none (D.map u8),int 0]) [(1000,0,.row false (rdR nl b ((hdB nm mt).length+used)))] 5) (hu:used+8≤R.length) (ok:Bool) (hok:ok=decide ((R.drop used).take 8=tlB D)) :
  HCon Tryz.prog Zbe [.op 1000 0 0,int room] [.row false (rdR nl b 0)] (Zxv ok nm mt nd D) [(1000,0,.row false (rdR nl b ((hdB nm mt).length+used+8)))] 40:=by
 refine HCon.of' mix Tryz.func31 rfl Tryz.ntmps31 ZcX ZcY zB (by simp [AV.gl,AV.gl.glL,int]) Zcw ?_
 unfold ZbE
 have hbl:b.length=(hdB nm mt).length+R.length:=by rw [hb,List.length_append]
 obtain ⟨p,hp⟩:∃ p,p=(hdB nm mt).length:=⟨_,rfl⟩
 have hdp:b.drop p=R:=by rw [hb,hp,List.drop_left]
 have p1:=Zw2 nl nm mt hm R b hb hl _ rfl
 have p4:=ZnM nl b hl (p+used) zO nd D hD _ rfl _ rfl
 rw [←List.drop_drop,hdp] at p4
 rw [←hp] at p3 ⊢
 have p2:HCon Tryz.prog Zbz [.op 1000 0 0,u8 (if nm=[] then 0 else 8)] [.row false (rdR nl b 10)] (.tup [str nm,int 0]) [(1000,0,.row false (rdR nl b p))] 10:=by
  by_cases c:nm=[]
  ·subst c
   have hp10:p=10:=by rw [hp,hdB,ZBI];rfl
   rw [if_pos rfl,hp10]
   exact Zux nl b 10
  ·have hp11:p=10+(nm.length+1):=by
    rw [hp,hdB,ZBI,if_neg c,if_neg c]
    simp only [List.length_cons,List.length_append,List.length_nil];omega
   have hd10:b.drop 10=nm++0::R:=by
    rw [hb,hdB,ZBI,if_neg c,if_neg c]
    simp
   rw [if_neg c,hp11]
   exact Zuy nl b hl 10 nm.length (by rw [hd10];exact Zuz hz) zO hn nm (by rw [hd10];exact List.take_left)
 obtain ⟨fl,hfl⟩:∃ fl:UInt8,fl=if nm=[] then 0 else 8:=⟨_,rfl⟩
 rw [←hfl] at p1 p2
 repeat (first|refine zS ?_|exact zT)
 refine Zab [(1000,0)] 2000 p1 zB zB ?_ ?_ ?_
 iterate 2 (case _=>(first|exact yU @rdR.eq_1|refine yR @rdR.eq_1 ?_))
 repeat (first|refine zR @rdR.eq_1 ?_|exact zU @rdR.eq_1)
 refine Zab [(1000,0)] 3000 p2 zB zB ?_ ?_ ?_
 iterate 2 (case _=>(first|exact yU @rdR.eq_1|refine yR @rdR.eq_1 ?_))
 repeat (first|refine zR @rdR.eq_1 ?_|exact zU @rdR.eq_1)
 refine Zab [(1000,0)] 4000 p3 zB zB ?_ ?_ ?_
 iterate 2 (case _=>(first|exact yU @rdR.eq_1|refine yR @rdR.eq_1 ?_))
 repeat (first|refine zR @rdR.eq_1 ?_|exact zU @rdR.eq_1)
 refine Zab [(1000,0)] 5000 p4 zB zB ?_ ?_ ?_
 iterate 2 (case _=>(first|exact yU @rdR.eq_1|refine yR @rdR.eq_1 ?_))
 by_cases c:(R.drop used).take 8=tlB D
 ·rw [decide_eq_true c] at hok
  subst hok
  rw [if_pos c]
  repeat (first|refine zR BI7 ?_|exact zU BI7)
 ·rw [decide_eq_false c] at hok
  subst hok
  rw [if_neg c]
  repeat (first|refine zR BI7 ?_|exact zU BI7)
theorem ZrO [Tabs Tryz.prog] (nl:Bool) (nm:List UInt8) (hn:nm.length≤200) (hz:Lib.indexByte nm 0<0) (mt:Nat) (hm:mt<4294967296) (R b:List UInt8) (hb:b=hdB nm mt++R) (hl:b.length≤1000000) (h4:R.length≤4096) (room:Int) (nd:Bool) (D:List UInt8) (hD:D.length≤1000000) (used:Nat)
  (hI:Con Tryz.prog Za5 [.sl nl none (R.map u8),int room] (.tup [.sl nd none (D.map u8),int (used:Int),int 0])) (hu:used+8≤R.length) (ok:Bool) (hok:ok=decide ((R.drop used).take 8=tlB D)) :
  HCon Tryz.prog Zbe [.op 1000 0 0,int room] [.row false (rdR nl b 0)] (Zxv ok nm mt nd D) [(1000,0,.row false (rdR nl b ((hdB nm mt).length+used+8)))] 40 :=
 ZrN nl nm hn hz mt hm R b hb hl room nd D hD used (Zp6 nl b hl _ R (by rw [hb,List.drop_left]) h4 (by rw [hb,List.length_append];omega) room nd D used hI zO) hu ok hok
set_option maxHeartbeats 1000000 in
theorem ZoN [Tabs Tryz.prog] (nm:List UInt8) (hn:nm.length≤200) (hz:Lib.indexByte nm 0<0) (mt:Nat) (hm:mt<4294967296) (R b:List UInt8) (hb:b=hdB nm mt++R) (hl:b.length≤1000000) (h4:R.length≤4096) (room:Nat) (hr:room≤16777216) (nd:Bool) (D:List UInt8) (hD:D.length≤1000000) (used:Nat)
  (hI:Con Tryz.prog Za5 [.sl false none (R.map u8),int (room:Int)] (.tup [.sl nd none (D.map u8),int (used:Int),int 0])) (hu:used+8=R.length) (hok:(R.drop used).take 8=tlB D) :
  Con Tryz.prog ZdG [.sl false none (b.map u8),int (room:Int)] (.tup [.sl false (some 3) [.agg [str nm,int (mt:Int),.sl nd none (D.map u8)]],.agg [str [],int 0,int 0]]):=by
 refine Con.of' mix Tryz.func10 rfl Tryz.ntmps10 Zho Zhp zB (by simp only [AV.free,AV.free.freeL,Zag,int,Bool.and_self]) (by simp only [AV.free,AV.free.freeL,Zag,int,str,Bool.and_self]) ?_
 unfold Ze8
 have p1:=ZrO false nm hn hz mt hm R b hb hl h4 room nd D hD used hI zO true (decide_eq_true hok).symm
 have hq:(hdB nm mt).length+used+8=b.length:=by rw [hb,List.length_append];omega
 rw [hq] at p1
 have hbl:10≤b.length:=by have:=ZrM (nm:=nm) (mt:=mt);omega
 have d1:decide ((room:Int)<0)=false:=decide_eq_false zO
 have d2:decide ((16777216:Int)<(room:Int))=false:=decide_eq_false zO
 have d3:decide ((b.length:Int)=0)=false:=decide_eq_false zO
 have d4:decide ((b.length:Int)<(b.length:Int))=false:=decide_eq_false zO
 have htl:b.take b.length=b:=List.take_length
 clear hb
 repeat (first|refine zR (ja2 @d1 @d2) ?_|exact zU (ja2 @d1 @d2))
 refine SWp.unroll ?_
 repeat (first|refine zR (ja3 @List.length_map.{0,0} @htl @List.drop_zero.{0}) ?_|exact zU (ja3 @List.length_map.{0,0} @htl @List.drop_zero.{0}))
 refine Zab [(30,1)] 2000 p1 zB zB ?_ ?_ ?_
 iterate 2 (case _=>(first|exact yU @rdR.eq_1|refine yR @rdR.eq_1 ?_))
 repeat (first|refine zR (ja5 @rdR.eq_1 @Zxv.eq_1 @d3 @d4 @List.length_map.{0,0}) ?_|exact zU (ja5 @rdR.eq_1 @Zxv.eq_1 @d3 @d4 @List.length_map.{0,0}))
 refine ⟨⟨_,rfl,rfl⟩,fun y hy=>⟨_,List.mem_singleton.1 hy⟩,?_⟩
 repeat (first|refine zR (ja5 @rdR.eq_1 @Zxv.eq_1 @d3 @d4 @List.length_map.{0,0}) ?_|exact zU (ja5 @rdR.eq_1 @Zxv.eq_1 @d3 @d4 @List.length_map.{0,0}))
 rfl
abbrev Mb:=List UInt8 × Nat × List UInt8 × List UInt8
def mbV (m:Mb):AV:=.agg [str m.1,int (m.2.1:Int),.sl (nl0 m.2.2.1.length) none (m.2.2.1.map u8)]
def mbC (l:List Mb):List AV:=l.flatMap fun m=>[str m.1,int (m.2.1:Int),.sl (nl0 m.2.2.1.length) none (m.2.2.1.map u8)]
theorem ZsF {l:List Mb}:AV.free.freeL (l.map mbV)=true:=ZcZ.2 fun x hx=>by
 obtain ⟨m,_,rfl⟩:=List.mem_map.1 hx
 simp only [mbV,AV.free,AV.free.freeL,str,int,Zag,Bool.and_self]
theorem ZiB {l:List Mb}:(mbC l).length=l.length*3:=by
 induction l with
 | nil=>rfl
 | cons m l ih=>simp only [mbC,List.flatMap_cons,List.length_append,List.length_cons,List.length_nil] at ih ⊢;omega
theorem Zk6:∀ {l:List Mb} {n:Nat},n=l.length→chunks (some 3) n (mbC l)=l.map mbV
 | [],_,rfl=>rfl
 | m::l,_,rfl=>by
  simp only [mbC,List.flatMap_cons,List.length_cons,chunks,List.map_cons]
  have:=Zk6 (l:=l) rfl
  simp only [mbC] at this
  rw [←this];rfl
theorem ZsG {l:List Mb} {m:Mb}:mbC (l++[m])=mbC l++[str m.1,int (m.2.1:Int),.sl (nl0 m.2.2.1.length) none (m.2.2.1.map u8)]:=by simp [mbC]
abbrev Bt:=Nat × List Nat
abbrev K3:=UInt8 × UInt8 × UInt8
def mfd (k:K3):List (K3 × Nat)→Option Nat
 | []=>none
 | e::m=>if k=e.1 then some e.2 else mfd k m
def mpt (k:K3) (p:Nat):List (K3 × Nat)→List (K3 × Nat)
 | []=>[(k,p)]
 | e::m=>if k=e.1 then (e.1,p)::m else e::mpt k p m
abbrev z3:Value:=.agg #[.int .u8 0,.int .u8 0,.int .u8 0]
def Ziq (b:List UInt8) (p:Int):Option K3:=if p<0∨(b.length:Int)-p<3 then none else some (b.getD p.toNat 0,b.getD (p.toNat+1) 0,b.getD (p.toNat+2) 0)
def ZmO (b:List UInt8) (m:List (K3 × Nat)) (p:Int):Int:=match Ziq b p with
 | some k=>(match mfd k m with
  | some q=>(q:Int)
  | none=>-32769)
 | none=>-32769
structure FInv (b:List UInt8) (m:List (K3 × Nat)) (A:List Int) (at_:Nat):Prop where
 len:A.length=b.length
 map:∀ e∈m,e.2<at_∧Ziq b (e.2:Int)=some e.1
 chain:∀ p,p<at_→(Ziq b (p:Int)).isSome=true→A.getD p 0=-32769∨(0≤A.getD p 0∧A.getD p 0<(p:Int)∧Ziq b (A.getD p 0)=Ziq b (p:Int))
theorem Zw3 {k:K3} {q:Nat}:∀ {m:List (K3 × Nat)},mfd k m=some q→(k,q)∈m
 | [],h=>by simp [mfd] at h
 | e::m,h=>by
  rw [mfd] at h
  split at h
  ·rename_i c;cases h;rw [c];simp
  ·exact List.mem_cons_of_mem _ (Zw3 h)
theorem Zy6 {b:List UInt8} {m:List (K3 × Nat)} {A:List Int} {at_:Nat} (h:FInv b m A at_):ZmO b m (at_:Int)=-32769∨(0≤ZmO b m (at_:Int)∧ZmO b m (at_:Int)<(at_:Int)∧Ziq b (ZmO b m (at_:Int))=Ziq b (at_:Int)∧(Ziq b (at_:Int)).isSome=true):=by
 cases hs:Ziq b (at_:Int) with
 | none=>exact .inl (by rw [ZmO,hs])
 | some k =>
  cases hf:mfd k m with
  | none=>exact .inl (by rw [ZmO,hs];simp only [hf])
  | some q =>
   have hl:ZmO b m (at_:Int)=(q:Int):=by rw [ZmO,hs];simp only [hf]
   obtain ⟨h1,h2⟩:=h.map _ (Zw3 hf)
   rw [hl]
   exact .inr ⟨Int.natCast_nonneg _,Int.ofNat_lt.2 h1,h2,rfl⟩
def ZCR (b:List UInt8) (m:List (K3 × Nat)) (A:List Int) (p:Nat):List Int:=if (Ziq b (p:Int)).isSome then A.set p (ZmO b m (p:Int)) else A
def ZDy (b:List UInt8) (m:List (K3 × Nat)) (p:Nat):List (K3 × Nat):=match Ziq b (p:Int) with
 | some k=>mpt k p m
 | none=>m
theorem Zw4 {k:K3} {p:Nat} {e:K3 × Nat}:∀ {m:List (K3 × Nat)},e∈mpt k p m→e=(k,p)∨e∈m
 | [],h=>by simp only [mpt,List.mem_singleton] at h;exact .inl h
 | a::m,h=>by
  rw [mpt] at h
  split at h
  ·rename_i c
   rcases List.mem_cons.1 h with h | h
   ·left;rw [h,c]
   ·exact .inr (List.mem_cons_of_mem _ h)
  ·rcases List.mem_cons.1 h with h | h
   ·right;rw [h];exact List.mem_cons_self ..
   ·exact (Zw4 h).imp id (List.mem_cons_of_mem _)
theorem FInv.add {b:List UInt8} {m:List (K3 × Nat)} {A:List Int} {p:Nat} (h:FInv b m A p) (hp:p<b.length):FInv b (ZDy b m p) (ZCR b m A p) (p+1):=by
 refine ⟨?_,?_,?_⟩
 ·unfold ZCR;split
  ·rw [List.length_set];exact h.len
  ·exact h.len
 ·intro e he
  unfold ZDy at he
  split at he
  ·rename_i k hk
   rcases Zw4 he with rfl | he
   ·exact ⟨by simp only;omega,hk⟩
   ·obtain ⟨h1,h2⟩:=h.map e he
    exact ⟨by omega,h2⟩
  ·obtain ⟨h1,h2⟩:=h.map e he
   exact ⟨by omega,h2⟩
 ·intro q hq hs
  by_cases c:q=p
  ·subst c
   unfold ZCR
   rw [if_pos hs]
   have e:(A.set q (ZmO b m (q:Int))).getD q 0=ZmO b m (q:Int):=by
    have:q<A.length:=by rw [h.len];exact hp
    simp [List.getD,this]
   rw [e]
   rcases Zy6 h with h1 | ⟨h1,h2,h3,_⟩
   ·exact .inl h1
   ·exact .inr ⟨h1,h2,h3⟩
  ·have e:(ZCR b m A p).getD q 0=A.getD q 0:=by
    unfold ZCR
    split
    ·simp [List.getD,List.getElem?_set_ne (Ne.symm c)]
    ·rfl
   rw [e]
   exact h.chain q zO hs
theorem FInv.start {b:List UInt8}:FInv b [] (List.replicate b.length 0) 0:=⟨by simp,by simp,fun p hp=>by omega⟩
end Go.Proofs.YtfplkgciebjehabGreatDoor.Aw
namespace Go.Proofs.YtfplkgciebjehabGreatDoor.Aw
open Go
set_option linter.defProp false
set_option maxRecDepth 100000
set_option linter.unusedSimpArgs false
set_option linter.unusedVariables false
set_option linter.defProp false
def ZzB (k:Nat):List AO→List (Nat × Nat × AO)
 | []=>[]
 | a::l=>(k,0,a)::ZzB (k+1) l
theorem Zy7 {k:Nat}:ZzB k []=[]:=rfl
theorem Zw5 {k:Nat} {a:AO} {l:List AO}:ZzB k (a::l)=(k,0,a)::ZzB (k+1) l:=rfl
theorem ZnN:∀ (l:List AO) (k id:Nat),ZcR (ZzB k l) id=if k≤id then (l[id-k]?).map (fun o=>(0,o)) else none
 | [],k,id=>by simp [ZzB,ZcR]
 | a::l,k,id=>by
  rw [ZzB,ZcR]
  by_cases c:id=k
  ·rw [if_pos c,if_pos zO,c];simp
  ·rw [if_neg c,ZnN l (k+1) id]
   by_cases d:k≤id
   ·rw [if_pos d,if_pos zO,show id-k=(id-(k+1))+1 by omega];simp
   ·rw [if_neg d,if_neg zO]
theorem Zw6 {a b c d:AO} {l:List AO}:Znd (a::b::c::d::l)=ZcR (ZzB 1000 (a::b::c::d::l)):=by
 funext id
 rw [ZnN,Znd]
theorem ZCS {p q r s:Nat × Nat} {hs:List (Nat × Nat)} {D c:Nat}:rho (p::q::r::s::hs) D c 1003 0=s:=by simp [rho,Za9]
theorem ZBm {p q r s:Nat × Nat} {hs:List (Nat × Nat)} {D c g:Nat}:rho (p::q::r::s::hs) D c 1003 (g+1)=(s.1,c+(g+1)):=by simp [rho,Za9]
theorem ZCT {p q r s t:Nat × Nat} {hs:List (Nat × Nat)} {D c:Nat}:rho (p::q::r::s::t::hs) D c 1004 0=t:=by simp [rho,Za9]
theorem ZBn {p q r s t:Nat × Nat} {hs:List (Nat × Nat)} {D c g:Nat}:rho (p::q::r::s::t::hs) D c 1004 (g+1)=(t.1,c+(g+1)):=by simp [rho,Za9]
theorem ZCU {p q r s t u:Nat × Nat} {hs:List (Nat × Nat)} {D c:Nat}:rho (p::q::r::s::t::u::hs) D c 1005 0=u:=by simp [rho,Za9]
theorem ZBo {p q r s t u:Nat × Nat} {hs:List (Nat × Nat)} {D c g:Nat}:rho (p::q::r::s::t::u::hs) D c 1005 (g+1)=(u.1,c+(g+1)):=by simp [rho,Za9]
theorem ZCV {p q r s:Nat × Nat} {D c id g:Nat} (h:1004≤id):rho [p,q,r,s] D c id g=(D+id,c+g):=ZcS (by simp [Za9];omega)
theorem ZCW {p q r s t:Nat × Nat} {D c id g:Nat} (h:1005≤id):rho [p,q,r,s,t] D c id g=(D+id,c+g):=ZcS (by simp [Za9];omega)
theorem ZCX {p q r s t u:Nat × Nat} {D c id g:Nat} (h:1006≤id):rho [p,q,r,s,t,u] D c id g=(D+id,c+g):=ZcS (by simp [Za9];omega)
def hR:=And.intro (And.intro @Zw6 (And.intro @Zy7 @Zw5)) <| And.intro (And.intro (And.intro @ZCS @ZBm) (And.intro @ZCT @ZBn)) <| And.intro (And.intro @ZCU @ZBo) (And.intro @ZCV (And.intro @ZCW @ZCX))
end Go.Proofs.YtfplkgciebjehabGreatDoor.Aw
namespace Go.Proofs.YtfplkgciebjehabGreatDoor.Aw
open Go
set_option linter.defProp false
set_option maxRecDepth 100000
set_option linter.unusedSimpArgs false
set_option linter.unusedVariables false
def wrR (g n i:Nat):List AV:=[.own 1001 g none 0 n,.sc (.int .i64 (i:Int))]
theorem Zp7 {n i:Nat} {nl:Bool} {b:List UInt8}:∀ m cells,AO.row m cells∈[AO.row false (wrR 0 n i),.row nl (b.map u8)]→AV.gl.glL 1 cells:=by
 intro m cells h
 simp only [List.mem_cons,AO.row.injEq,List.not_mem_nil,or_false] at h
 obtain ⟨-,rfl⟩ | ⟨-,rfl⟩:=h
 ·simp only [wrR,AV.gl.glL,AV.gl,and_true];omega
 ·exact Zan _ _ Zag
theorem ZlM [Tabs Tryz.prog]:HCon Tryz.prog ZhH [] [] (.op 2 1 0) [(2,1,.row false [.own 100 2 none 0 0,int 0]),(100,2,.row true [])] 3:=by
 refine HCon.of' mix Tryz.func13 rfl Tryz.ntmps13 ZlG ZlH zB (by simp [AV.gl.glL]) zB ?_
 unfold ZhP
 iterate 4 (first|refine zS ?_|exact zT)
 refine SWp.adoptC 2 1 0 100 none (nl:=false) (cells:=[.sc (.slice none 0 0),int 0]) yT rfl (by decide) ?_
 repeat (first|refine zR @List.set_cons_zero.{0} ?_|exact zU @List.set_cons_zero.{0})
theorem ZrP [Tabs Tryz.prog] (L:List Nat) (hl:L.length≤3000000) (hL:∀ x∈L,x<2) (n i:Nat) (hn:n=(L.length+7) / 8) (hi:i=L.length) (x:Nat) (hx:x<2) :
  HCon Tryz.prog ZgT [.op 1000 0 0,.sc (.int .i64 (x:Int))] [.row false (wrR 0 n i),.row (nl0 n) ((Za6 L).map u8)] (.tup [])
   [(1000,0,.row false (wrR 1 ((i+8) / 8) (i+1))),(1001,1,.row false ((Za6 (L++[x])).map u8))] 2:=by
 refine HCon.of' mix Tryz.func113 rfl Tryz.ntmps113 ZkY ZkZ zB (by simp [AV.gl,AV.gl.glL]) Zp7 ?_
 unfold Zg5
 have hbl:(Za6 L).length=n:=by rw [ZcE,hn]
 by_cases c0:i % 8=0
 ·have hs:=ZpJ (L:=L) (x:=x) zO
  have hin:i / 8=n:=zO
  have hn1:(i+8) / 8=n+1:=zO
  obtain ⟨b,hb⟩:∃ b,b=Za6 L:=⟨_,rfl⟩
  rw [←hb] at hs hbl ⊢
  rw [hs,hn1]
  obtain ⟨b0,hb0⟩:∃ b0,b0=b++[0]:=⟨_,rfl⟩
  have hrow:b.map u8++[AV.sc (.int .u8 0)]=b0.map u8:=by rw [hb0];simp [u8]
  have hl0:b0.length=n+1:=by rw [hb0];simp [hbl]
  have hg0:b0.getD n 0=0:=by rw [hb0,←hbl];simp [List.getD]
  have hset:b0.set n (UInt8.ofNat x)=b++[UInt8.ofNat x]:=by rw [hb0,←hbl];simp
  have hor:ZbG .or .u8 ((b0.getD n 0).toNat:Int) .u8 (x:Int)=(True,.sc (.int .u8 ((UInt8.ofNat x).toNat:Int))):=by
   rw [hg0]
   obtain rfl | rfl:x=0∨x=1:=zO
   ·exact Zz2 (n:=0) (m:=0) zO zO
   ·exact Zz2 (n:=0) (m:=1) zO zO
  have hfin:=Zpu (b:=b0) (k:=n) (c:=UInt8.ofNat x) zO
  rw [hset] at hfin
  repeat (first|refine zR (ja7 @wrR.eq_1 @c0 @hin @hrow @hor @hfin iR) ?_|exact zU (ja7 @wrR.eq_1 @c0 @hin @hrow @hor @hfin iR))
 ·have hs:=ZpK (L:=L) (x:=x) zO
  have hla:=Zrp (L:=L) zO
  obtain ⟨q,hq⟩:∃ q,q=L.length / 8:=⟨_,rfl⟩
  obtain ⟨j,hj⟩:∃ j,j=L.length % 8:=⟨_,rfl⟩
  rw [←hq] at hs hla
  rw [←hj] at hs
  have hlt:=ZmA (l:=L.drop (8*q)) fun y hy=>hL y (List.mem_of_mem_drop hy)
  have hdl:(L.drop (8*q)).length=j:=by rw [List.length_drop];omega
  rw [hdl] at hlt
  obtain ⟨y,hy⟩:∃ y,y=Zfi (L.drop (8*q)):=⟨_,rfl⟩
  rw [←hy] at hs hla hlt
  have hp:2^j≤128:=ZaI (n:=j) (m:=7) zO
  obtain ⟨z,hz⟩:∃ z,z=x*2^j:=⟨_,rfl⟩
  have hzl:z≤128:=by
   obtain rfl | rfl:x=0∨x=1:=zO
   ·omega
   ·omega
  have hor:y|||z=y+2^j*x:=by
   rw [hz,Nat.mul_comm,Nat.or_comm,←Nat.two_pow_add_eq_or_of_lt hlt,Nat.add_comm]
  have hyz:y+2^j*x<256:=by
   rw [Nat.mul_comm,←hz]
   have:=Nat.or_lt_two_pow (n:=8) (x:=y) (y:=z) zO zO
   rw [hor,Nat.mul_comm,←hz] at this
   exact this
  have hiq:i / 8=q:=zO
  have hij:i % 8=j:=zO
  have hi8:(i+8) / 8=n:=zO
  have hqn:q<n:=zO
  obtain ⟨b,hb⟩:∃ b,b=Za6 L:=⟨_,rfl⟩
  rw [←hb] at hs hla hbl ⊢
  rw [hs,hi8]
  have hbq:((b.getD q 0).toNat:Int)=(y:Int):=by rw [hla,UInt8.toNat_ofNat',Nat.mod_eq_of_lt zO]
  obtain ⟨c,hc⟩:∃ c,c=UInt8.ofNat (y+2^j*x):=⟨_,rfl⟩
  have hcy:y|||z=c.toNat:=by rw [hc,hor,UInt8.toNat_ofNat',Nat.mod_eq_of_lt hyz]
  rw [←hc]
  have hfin:=Zpu (b:=b) (k:=q) (c:=c) zO
  have dj:decide ((j:Int)=0)=false:=decide_eq_false zO
  have hnl:nl0 n=false:=Zci zO
  refine SWp.renew 1001 0 (o:=.row (nl0 n) (b.map u8)) (yU @wrR.eq_1) ?_
  refine SWp.le (Zal (N:=47) (gc:=2) (l:=[(0,.op 1000 0 0),(1,.sc (.int .i64 (x:Int)))]) (h:=[(1000,0,.row false (wrR 1 n i)),(1001,1,.row false (b.map u8))]) rfl ?_ ?_ ?_) ?_
  ·exact Nat.le_refl _
  iterate 2 (case _=>(first|exact yU (ja4 @ZbN @wrR.eq_1 @ZbO @hnl)|refine yR (ja4 @ZbN @wrR.eq_1 @ZbO @hnl) ?_))
  repeat (first|refine zR (ja8 @wrR.eq_1 @hij @dj @hiq @hbq hz.symm @hcy (ja2 @hfin iR)) ?_|exact zU (ja8 @wrR.eq_1 @hij @dj @hiq @hbq hz.symm @hcy (ja2 @hfin iR)))
def BI0:=ja2 @wrR.eq_1 iR
def BI10:=ja3 @wrR.eq_1 @List.take_zero.{0} @List.append_nil.{0}
theorem ZiC [Tabs Tryz.prog] (L:List Nat) (hl:L.length≤2000000) (hL:∀ x∈L,x<2) (v:Nat) (hv:v<16777216) (n:Nat) (hn:n≤24) (i m:Nat) (hi:i=L.length) (hm:m=(L.length+7) / 8) :
  HCon Tryz.prog ZbJ [.op 1000 0 0,.sc (.int .i64 (v:Int)),.sc (.int .i64 (n:Int))] [.row false (wrR 0 m i),.row (nl0 m) ((Za6 L).map u8)] (.tup [])
   [(1000,0,.row false (wrR 60 ((i+n+7) / 8) (i+n))),(1001,60,.row (nl0 ((i+n+7) / 8)) ((Za6 (L++Zea v n)).map u8))] 61:=by
 refine HCon.of' mix Tryz.func68 rfl Tryz.ntmps68 ZkU ZkV zB (by simp [AV.gl,AV.gl.glL]) Zp7 ?_
 unfold Zg3
 have d1:decide ((n:Int)<0)=false:=decide_eq_false zO
 have d2:decide (24<(n:Int))=false:=decide_eq_false zO
 repeat (first|refine zR (ja2 @d1 @d2) ?_|exact zU (ja2 @d1 @d2))
 refine SWp.loop (α:=Nat × Nat) (fun x=>mk 24 (1+2*x.1) [(0,.op 1000 0 0),(1,.sc (.int .i64 (v:Int))),(13,int n),(14,int x.1)] [(1000,0,.row false (wrR x.2 ((i+x.1+7) / 8) (i+x.1))),(1001,x.2,.row (nl0 ((i+x.1+7) / 8)) ((Za6 (L++(Zea v n).take x.1)).map u8))])
  (fun x=>x.1≤n) (fun x=>n-x.1) (0,0) (Nat.zero_le _) (Zal rfl ?_ ?_ ?_) ?_
 ·exact Nat.le_refl _
 ·(first|exact yT|refine yS ?_)
 ·(first|exact yU BI10|refine yR BI10 ?_)
  rw [hm,hi];exact ⟨rfl,rfl⟩
 rintro ⟨k,g⟩ hk -
 simp only at hk
 repeat (first|refine zS ?_|exact zT)
 refine SWp.cond rfl (fun h=>?_) (fun h=>?_)
 ·simp only [decide_eq_true_eq] at h
  have hkn:k<n:=zO
  have hs:=Zwl (v:=v) hkn
  obtain ⟨L',hL'⟩:∃ L',L'=L++(Zea v n).take k:=⟨_,rfl⟩
  have hll:L'.length=i+k:=by rw [hL',List.length_append,List.length_take,ZaP];omega
  have hL2:∀ x∈L',x<2:=by
   rw [hL']
   intro x hx
   rcases List.mem_append.1 hx with h | h
   ·exact hL x h
   ·exact Zwk x (List.mem_of_mem_take h)
  obtain ⟨y,hy⟩:∃ y,y=v / 2^k:=⟨_,rfl⟩
  rw [←hy] at hs
  have hyv:y<16777216:=by rw [hy];exact Nat.lt_of_le_of_lt (Nat.div_le_self _ _) hv
  have hbit:=ZrP L' zO hL2 ((i+k+7) / 8) (i+k) (by rw [hll]) hll.symm (y % 2) (Nat.mod_lt _ zO)
  have hs2:L++(Zea v n).take (k+1)=L'++[y % 2]:=by rw [hs,hL',List.append_assoc]
  rw [←hL']
  have e78:i+(k+1)+7=i+k+8:=zO
  have hnl:nl0 ((i+k+8) / 8)=false:=Zci zO
  repeat (first|refine zR (ja2 hy.symm @wrR.eq_1) ?_|exact zU (ja2 hy.symm @wrR.eq_1))
  refine Zab [(1000,0),(1001,g)] 2000 hbit zB zB ?_ ?_ ?_
  iterate 2 (case _=>(first|exact yU BI0|refine yR BI0 ?_))
  repeat (first|refine zR BI0 ?_|exact zU BI0)
  refine At.of (k+1,1+2*k+1) (by simp only;omega) (by simp only;omega) rfl rfl ?_ ?_ ?_
  ·simp only;omega
  iterate 2 (case _=>(first|exact yU (ja5 @wrR.eq_1 @hs2 @e78 @hnl @Int.add_assoc)|refine yR (ja5 @wrR.eq_1 @hs2 @e78 @hnl @Int.add_assoc) ?_))
 ·simp only [decide_eq_false_iff_not] at h
  obtain rfl:k=n:=zO
  have ht:(Zea v k).take k=Zea v k:=List.take_of_length_le (by rw [ZaP];exact Nat.le_refl _)
  rw [ht]
  refine SWp.le (Zal (N:=24) (gc:=60) (l:=[]) (h:=[(1000,0,.row false (wrR g ((i+k+7) / 8) (i+k))),(1001,g,.row (nl0 ((i+k+7) / 8)) ((Za6 (L++Zea v k)).map u8))]) rfl ?_ ?_ ?_) ?_
  ·(first|exact yT|refine yS ?_)
   omega
  iterate 2 (case _=>(first|exact yT|refine yS ?_))
  refine SWp.renew 1001 g (o:=.row (nl0 ((i+k+7) / 8)) ((Za6 (L++Zea v k)).map u8)) yT ?_
  refine SWp.le (Zal (N:=24) (gc:=61) (l:=[]) (h:=[(1000,0,.row false (wrR 60 ((i+k+7) / 8) (i+k))),(1001,60,.row (nl0 ((i+k+7) / 8)) ((Za6 (L++Zea v k)).map u8))]) rfl ?_ ?_ ?_) ?_
  iterate 3 (case _=>(first|exact yU (ja3 @wrR.eq_1 @ZbO @ZbN)|refine yR (ja3 @wrR.eq_1 @ZbO @ZbN) ?_))
  repeat (first|refine zR iR ?_|exact zU iR)
theorem ZoO [Tabs Tryz.prog] (n i:Nat) (b:List UInt8) (hb:b.length=n) (hn:n≤1000000):HCon Tryz.prog Zfx [.op 1000 0 0] [.row false (wrR 0 n i),.row (nl0 n) (b.map u8)] (.sl (nl0 n) none (b.map u8)) [(1000,0,.row false (wrR 0 n i)),(1001,0,.row (nl0 n) (b.map u8))] 10:=by
 refine HCon.of' mix Tryz.func18 rfl Tryz.ntmps18 Zjw Zjx zB (by simp [AV.gl,AV.gl.glL]) Zp7 ?_
 unfold ZfU
 have hnl:nl0 n=true→b=[]:=by
  intro h
  cases n with
  | zero=>exact List.eq_nil_of_length_eq_zero hb
  | succ n=>simp [nl0] at h
 have hcl:=Zoo (nl0 n) b zO hnl
 rw [hb] at hcl
 repeat (first|refine zR @wrR.eq_1 ?_|exact zU @wrR.eq_1)
 refine ZCk [] 2000 hcl zB zB ?_ ?_ rfl ?_ ?_
 ·(first|exact yT|refine yS ?_)
 ·refine ⟨.inr ⟨?_,?_⟩,trivial⟩
  ·(first|exact yU @hb|refine yR @hb ?_)
  ·simp only [AV.free,Zag]
 ·simp only [foH,Zzv,Bool.and_self]
 iterate 1 (first|refine zR @wrR.eq_1 ?_|exact zU @wrR.eq_1)
 refine SWp.frzo 2005 3 (nl:=nl0 n) (cells:=b.map u8) yT Zag ?_
 refine SWp.le (Zal (N:=8) (gc:=4) (l:=[(2,.sl (nl0 n) none (b.map u8))]) (h:=[(1000,0,.row false (wrR 0 n i)),(1001,0,.row (nl0 n) (b.map u8))]) rfl ?_ ?_ ?_) ?_
 iterate 3 (case _=>(first|exact yU (ja3 fR @hb @wrR.eq_1)|refine yR (ja3 fR @hb @wrR.eq_1) ?_))
 repeat (first|refine zR @wrR.eq_1 ?_|exact zU @wrR.eq_1)
theorem ZoP (v:Nat):∀ (n:Nat),Zfi (Zea v n)=v % 2^n
 | 0=>by simp [Zea,Zfi,Nat.mod_one]
 | n+1=>by
  have e:Zea v (n+1)=Zea v n++[v / 2^n % 2]:=by simp [Zea,List.range_succ]
  rw [e,Zhx,ZoP v n,ZaP]
  simp only [Zfi,Nat.mul_zero,Nat.add_zero]
  rw [Nat.pow_succ,Nat.mod_mul]
theorem Zw7 {c:UInt8}:Zfi (Zc8 c)=c.toNat:=by
 have:=ZoP c.toNat 8
 rw [Nat.mod_eq_of_lt (by have:=c.toNat_lt;omega)] at this
 exact this
theorem Zw8 {X:List UInt8}:∀ (k:Nat),(Zae X).drop (8*k)=Zae (X.drop k):=by
 intro k
 have e:Zae X=Zae (X.take k)++Zae (X.drop k):=by rw [←ZbP,List.take_append_drop]
 rw [e]
 by_cases h:k≤X.length
 ·rw [List.drop_append_of_le_length (by rw [Zad,List.length_take];omega)]
  rw [List.drop_of_length_le (by rw [Zad,List.length_take];omega)]
  rfl
 ·rw [List.drop_of_length_le (i:=k) zO]
  simp only [Zae,List.flatMap_nil,List.append_nil]
  exact List.drop_of_length_le (by have:=Zad (l:=X.take k);simp only [Zae] at this;rw [this,List.length_take];omega)
theorem Zfk {X:List UInt8}:Za6 (Zae X)=X:=by
 refine List.ext_getElem (by rw [ZcE,Zad];omega) fun k h1 h2=>?_
 rw [ZcE,Zad] at h1
 simp only [Za6,List.getElem_map,List.getElem_range,Zij]
 rw [Zw8,List.drop_eq_getElem_cons h2]
 have:(Zae (X[k]::X.drop (k+1))).take 8=Zc8 X[k]:=by
  simp only [Zae,List.flatMap_cons]
  rw [List.take_append_of_le_length (by rw [ZaM];omega),List.take_of_length_le (by rw [ZaM];omega)]
 rw [this,Zw7]
 exact UInt8.ofNat_toNat
def ZBp (L:List Nat):List Nat:=L++List.replicate (8*((L.length+7) / 8)-L.length) 0
theorem ZrQ {L:List Nat}:(ZBp L).length=8*((L.length+7) / 8):=by rw [ZBp,List.length_append,List.length_replicate];omega
theorem ZnO:∀ (n:Nat),Zfi (List.replicate n 0)=0
 | 0=>rfl
 | n+1=>by rw [List.replicate_succ,Zfi,ZnO n]
theorem Zw9 {L:List Nat}:Za6 (ZBp L)=Za6 L:=by
 have hl:((ZBp L).length+7) / 8=(L.length+7) / 8:=by rw [ZrQ];omega
 unfold Za6
 rw [hl]
 refine List.map_congr_left fun k hk=>?_
 have hk:=List.mem_range.1 hk
 by_cases h:8*k+8≤L.length
 ·exact Zhy h
 ·unfold Zij ZBp
  have e:8*((L.length+7) / 8)-L.length=8*k+8-L.length:=zO
  rw [List.drop_append_of_le_length zO,e,List.take_of_length_le (by rw [List.length_append,List.length_drop,List.length_replicate];omega),List.take_of_length_le (by rw [List.length_drop];omega),Zhx,ZnO]
  simp
theorem Zkq [Tabs Tryz.prog] (B:List UInt8) (hB:B.length≤2000000) (i m:Nat) (hm:m=B.length) :
  HCon Tryz.prog Zdj [.op 1000 0 0] [.row false (wrR 0 m i),.row (nl0 m) (B.map u8)] (.tup [])
   [(1000,0,.row false (wrR 0 m (8*m))),(1001,0,.row (nl0 m) (B.map u8))] 1:=by
 refine HCon.of' mix Tryz.func67 rfl Tryz.ntmps67 Zjy Zjz zB (by simp [AV.gl,AV.gl.glL]) Zp7 ?_
 unfold ZfV
 have e:(m:Int)*8=((8*m:Nat):Int):=zO
 repeat (first|refine xR (ja3 @wrR.eq_1 iR @e) ?_|exact xU (ja3 @wrR.eq_1 iR @e))
theorem Zy8 {a:Nat} {y:List UInt8}:(nl0 a&&(y.map u8).isEmpty)=nl0 (a+y.length):=by
 cases y with
 | nil=>simp
 | cons c y=>simp [nl0]
theorem ZrR [Tabs Tryz.prog] (X:List UInt8) (hX:X.length≤1000000) (nl:Bool) (b:List UInt8) (hb:b.length≤1000000) (i m:Nat) (hm:m=X.length) :
  HCon Tryz.prog ZgS [.op 1000 0 0,.sl nl none (b.map u8)] [.row false (wrR 0 m i),.row (nl0 m) (X.map u8)] (.tup [])
   [(1000,0,.row false (wrR 1 (m+b.length) (8*(m+b.length)))),(1001,1,.row (nl0 (m+b.length)) ((X++b).map u8))] 3:=by
 refine HCon.of' mix Tryz.func69 rfl Tryz.ntmps69 ZkW ZkX zB (by simp only [AV.gl,AV.gl.glL,and_true];exact ⟨by omega,Zan _ _ Zag⟩) Zp7 ?_
 unfold Zg4
 have hadd:=Zy8 (a:=m) (y:=b)
 obtain ⟨B,hB⟩:∃ B,B=X++b:=⟨_,rfl⟩
 have hBl:B.length=m+b.length:=by rw [hB,List.length_append,hm]
 have hrow:X.map u8++b.map u8=B.map u8:=by rw [hB,List.map_append]
 have al:=Zkq B zO i (m+b.length) zO
 rw [←hB]
 repeat (first|refine xR (ja3 @wrR.eq_1 @hadd @hrow) ?_|exact xU (ja3 @wrR.eq_1 @hadd @hrow))
 refine Zab [(1000,0),(1001,1)] 2000 al zB zB ?_ ?_ ?_
 iterate 2 (case _=>(first|exact vU BI0|refine vR BI0 ?_))
 repeat (first|refine xR BI0 ?_|exact xU BI0)
theorem Zm8 [Tabs Tryz.prog] (L:List Nat) (hl:L.length≤1900000) (hL:∀ x∈L,x<2) (u v:Nat) (hu:u<2) (hv:v<4) (i m:Nat) (hi:i=L.length) (hm:m=(L.length+7) / 8) :
  HCon Tryz.prog Zd5 [.agg [.op 1000 0 0],.sc (.int .i64 (u:Int)),.sc (.int .i64 (v:Int))] [.row false (wrR 0 m i),.row (nl0 m) ((Za6 L).map u8)] (.tup [])
   [(1000,0,.row false (wrR 123 ((i+1+2+7) / 8) (i+1+2))),(1001,123,.row (nl0 ((i+1+2+7) / 8)) ((Za6 (L++(Zea u 1++Zea v 2))).map u8))] 124:=by
 refine HCon.of' mix Tryz.func34 rfl Tryz.ntmps34 ZhU ZhV zB (by simp [AV.gl,AV.gl.glL]) Zp7 ?_
 unfold Zd9
 have p1:=ZiC L zO hL u zO 1 zO i m hi hm
 have hL1:∀ x∈L++Zea u 1,x<2:=fun x hx=>(List.mem_append.1 hx).elim (hL x) (Zwk x)
 have hl1:(L++Zea u 1).length=i+1:=by rw [List.length_append,ZaP,hi]
 have p2:=ZiC (L++Zea u 1) zO hL1 v zO 2 zO (i+1) ((i+1+7) / 8) zO zO
 rw [List.append_assoc] at p2
 obtain ⟨b1,e1⟩:∃ b,b=Za6 (L++Zea u 1):=⟨_,rfl⟩
 obtain ⟨b2,e2⟩:∃ b,b=Za6 (L++(Zea u 1++Zea v 2)):=⟨_,rfl⟩
 rw [←e1] at p1 p2
 rw [←e2] at p2 ⊢
 repeat (first|refine zS ?_|exact zT)
 refine Zab [(1000,0),(1001,0)] 2000 p1 zB zB ?_ ?_ ?_
 iterate 2 (case _=>(first|exact yU @wrR.eq_1|refine yR @wrR.eq_1 ?_))
 repeat (first|refine zR BI0 ?_|exact zU BI0)
 refine Zab [(1000,0),(1001,62)] 3000 p2 zB zB ?_ ?_ ?_
 iterate 2 (case _=>(first|exact yU @wrR.eq_1|refine yR @wrR.eq_1 ?_))
 repeat (first|refine zR BI0 ?_|exact zU BI0)
def ZlN (last:Nat) (b:List UInt8):List UInt8 :=
 UInt8.ofNat last::UInt8.ofNat (b.length % 256)::UInt8.ofNat (b.length / 256)::UInt8.ofNat ((65535-b.length) % 256)::UInt8.ofNat ((65535-b.length) / 256)::b
theorem Zy9 {X:List UInt8} {c:UInt8}:Zae (X++[c])=Zae X++Zc8 c:=by rw [ZbP];simp [Zae]
theorem ZuA {X:List UInt8} {u:Nat} (hu:u<2):Za6 (Zae X++(Zea u 1++Zea 0 2))=X++[UInt8.ofNat u]:=by
 rw [←Zw9]
 have hl:(Zae X++(Zea u 1++Zea 0 2)).length=8*X.length+3:=by rw [List.length_append,Zad,List.length_append,ZaP,ZaP]
 have:ZBp (Zae X++(Zea u 1++Zea 0 2))=Zae (X++[UInt8.ofNat u]):=by
  unfold ZBp
  rw [hl,show 8*((8*X.length+3+7) / 8)-(8*X.length+3)=5 by omega,Zy9,List.append_assoc]
  congr 1
  obtain rfl | rfl:u=0∨u=1:=zO
  ·decide
  ·decide
 rw [this,Zfk]
theorem ZBq {n:Nat} (h:n<65536):Zea n 16=Zc8 (UInt8.ofNat (n % 256))++Zc8 (UInt8.ofNat (n / 256)):=by
 have e1:(UInt8.ofNat (n % 256)).toNat=n % 256:=by rw [UInt8.toNat_ofNat'];omega
 have e2:(UInt8.ofNat (n / 256)).toNat=n / 256:=by rw [UInt8.toNat_ofNat'];omega
 refine List.ext_getElem (by simp [Zea,Zc8]) fun k h1 h2=>?_
 have hk:k<16:=by simpa [Zea] using h1
 simp only [Zea,List.getElem_map,List.getElem_range]
 by_cases c:k<8
 ·rw [List.getElem_append_left (by rw [ZaM];exact c)]
  simp only [Zc8,List.getElem_map,List.getElem_range,e1]
  have h8:2^k*2^(8-k)=256:=by rw [←Nat.pow_add,show k+(8-k)=8 by omega]
  rw [←h8,Nat.mod_mul_right_div_self]
  rw [show 8-k=(7-k)+1 by omega,Nat.pow_succ,Nat.mul_comm,Nat.mod_mul_right_mod]
 ·rw [List.getElem_append_right (by rw [ZaM];omega)]
  simp only [Zc8,List.getElem_map,List.getElem_range,e2,List.length_map,List.length_range]
  have h8:256*2^(k-8)=2^k:=by rw [show (256:Nat)=2^8 from rfl,←Nat.pow_add,show 8+(k-8)=k by omega]
  rw [Nat.div_div_eq_div_mul,h8]
theorem ZsH {X:List UInt8} {n:Nat} (h:n<65536):Zae X++Zea n 16=Zae (X++[UInt8.ofNat (n % 256),UInt8.ofNat (n / 256)]):=by
 rw [ZBq h,ZbP]
 simp [Zae]
theorem Ze6 [Tabs Tryz.prog] (X:List UInt8) (hX:X.length≤200000) (u:Nat) (hu:u<2) (nl:Bool) (b:List UInt8) (hb:b.length≤65535) (i m m':Nat) (hm:m=X.length) (hi:i=8*m) (hm':m'=m+5+b.length) :
  HCon Tryz.prog Zbg [.agg [.op 1000 0 0],.sc (.int .i64 (u:Int)),.sl nl none (b.map u8)] [.row false (wrR 0 m i),.row (nl0 m) (X.map u8)] (.tup [])
   [(1000,0,.row false (wrR 250 m' (8*m'))),(1001,250,.row (nl0 m') ((X++ZlN u b).map u8))] 252:=by
 refine HCon.of' mix Tryz.func33 rfl Tryz.ntmps33 Zfb Zfc zB (by simp only [AV.gl,AV.gl.glL,and_true,true_and];exact ⟨by omega,Zan _ _ Zag⟩) Zp7 ?_
 unfold Zce
 obtain ⟨n,hn⟩:∃ n,n=b.length:=⟨_,rfl⟩
 have p1:=Zm8 (Zae X) (by rw [Zad];omega) Zdc u 0 hu zO i m (by rw [Zad];omega) (by rw [Zad];omega)
 rw [Zfk,ZuA hu] at p1
 obtain ⟨X1,hX1⟩:∃ Y,Y=X++[UInt8.ofNat u]:=⟨_,rfl⟩
 have l1:X1.length=m+1:=by rw [hX1];simp [hm]
 have em1:(i+1+2+7) / 8=m+1:=zO
 rw [←hX1,em1] at p1
 have p2:=Zkq X1 zO (i+1+2) (m+1) l1.symm
 have p3:=ZiC (Zae X1) (by rw [Zad];omega) Zdc n zO 16 zO (8*(m+1)) (m+1) (by rw [Zad];omega) (by rw [Zad];omega)
 rw [Zfk,ZsH zO,Zfk] at p3
 obtain ⟨X2,hX2⟩:∃ Y,Y=X1++[UInt8.ofNat (n % 256),UInt8.ofNat (n / 256)]:=⟨_,rfl⟩
 have l2:X2.length=m+3:=by rw [hX2];simp [l1]
 have em2:(8*(m+1)+16+7) / 8=m+3:=zO
 have ei2:8*(m+1)+16=8*(m+3):=zO
 rw [←hX2,em2,ei2] at p3
 have p4:=ZiC (Zae X2) (by rw [Zad];omega) Zdc (65535-n) zO 16 zO (8*(m+3)) (m+3) (by rw [Zad];omega) (by rw [Zad];omega)
 rw [Zfk,ZsH zO,Zfk] at p4
 obtain ⟨X3,hX3⟩:∃ Y,Y=X2++[UInt8.ofNat ((65535-n) % 256),UInt8.ofNat ((65535-n) / 256)]:=⟨_,rfl⟩
 have l3:X3.length=m+5:=by rw [hX3];simp [l2]
 have em3:(8*(m+3)+16+7) / 8=m+5:=zO
 have ei3:8*(m+3)+16=8*(m+5):=zO
 rw [←hX3,em3,ei3] at p4
 have p5:=ZrR X3 zO nl b zO (8*(m+5)) (m+5) l3.symm
 have hfin:X3++b=X++ZlN u b:=by rw [hX3,hX2,hX1,hn];simp [ZlN]
 rw [hfin,←hm'] at p5
 obtain ⟨Y,hY⟩:∃ Y,Y=X++ZlN u b:=⟨_,rfl⟩
 rw [←hY] at p5 ⊢
 obtain ⟨n',hn'⟩:∃ n',n'=65535-n:=⟨_,rfl⟩
 have en:(65535:Int)-(n:Int)=(n':Int):=zO
 rw [←hn'] at p4
 clear hfin hY hX3 hX2 hX1
 repeat (first|refine zS ?_|exact zT)
 refine Zab [(1000,0),(1001,0)] 2000 p1 zB zB ?_ ?_ ?_
 iterate 2 (case _=>(first|exact yU @wrR.eq_1|refine yR @wrR.eq_1 ?_))
 repeat (first|refine zR BI0 ?_|exact zU BI0)
 refine Zab [(1000,0),(1001,125)] 3000 p2 zB zB ?_ ?_ ?_
 iterate 2 (case _=>(first|exact yU @wrR.eq_1|refine yR @wrR.eq_1 ?_))
 repeat (first|refine zR (ja4 @wrR.eq_1 iR @List.length_map.{0,0} hn.symm) ?_|exact zU (ja4 @wrR.eq_1 iR @List.length_map.{0,0} hn.symm))
 refine Zab [(1000,0),(1001,125)] 4000 p3 zB zB ?_ ?_ ?_
 iterate 2 (case _=>(first|exact yU @wrR.eq_1|refine yR @wrR.eq_1 ?_))
 repeat (first|refine zR (ja5 @wrR.eq_1 iR @List.length_map.{0,0} hn.symm @en) ?_|exact zU (ja5 @wrR.eq_1 iR @List.length_map.{0,0} hn.symm @en))
 refine Zab [(1000,0),(1001,187)] 5000 p4 zB zB ?_ ?_ ?_
 iterate 2 (case _=>(first|exact yU @wrR.eq_1|refine yR @wrR.eq_1 ?_))
 repeat (first|refine zR BI0 ?_|exact zU BI0)
 refine Zab [(1000,0),(1001,248)] 6000 p5 zB zB ?_ ?_ ?_
 iterate 2 (case _=>(first|exact yU @wrR.eq_1|refine yR @wrR.eq_1 ?_))
 repeat (first|refine zR BI0 ?_|exact zU BI0)
def stK (b:List UInt8):Nat→List UInt8
 | 0=>[]
 | k+1=>stK b k++ZlN 0 ((b.drop (65535*k)).take 65535)
def stL (b:List UInt8):List UInt8:=stK b ((b.length-1) / 65535)++ZlN 1 (b.drop (65535*((b.length-1) / 65535)))
theorem Zcx {u:Nat} {b:List UInt8}:(ZlN u b).length=b.length+5:=rfl
theorem Zk7 {b:List UInt8}:∀ {k:Nat},65535*k≤b.length→(stK b k).length=65540*k
 | 0,_=>rfl
 | k+1,h=>by rw [stK,List.length_append,Zk7 zO,Zcx,List.length_take,List.length_drop];omega
def BI11:=ja4 @wrR.eq_1 @stK.eq_1 @stK.eq_2 @Zay
def BI12:=ja3 @wrR.eq_1 iR @List.length_map.{0,0}
theorem ZmP [Tabs Tryz.prog] (nl:Bool) (b:List UInt8) (hb:b.length≤170000) (m':Nat) (hm':m'=(stL b).length) :
  HCon Tryz.prog ZdE [.agg [.op 1000 0 0],.sl nl none (b.map u8)] [.row false (wrR 0 0 0),.row true []] (.tup [])
   [(1000,0,.row false (wrR 2251 m' (8*m'))),(1001,2251,.row (nl0 m') ((stL b).map u8))] 2253:=by
 refine HCon.of' mix Tryz.func14 rfl Tryz.ntmps14 Zhv Zhw zB (by simp only [AV.gl,AV.gl.glL,and_true,true_and];exact ⟨by omega,Zan _ _ Zag⟩) (Zp7 (b:=[])) ?_
 unfold Zd0
 obtain ⟨n,hn⟩:∃ n,n=b.length:=⟨_,rfl⟩
 obtain ⟨Q,hQ⟩:∃ Q,Q=(n-1) / 65535:=⟨_,rfl⟩
 have hstL:stL b=stK b Q++ZlN 1 (b.drop (65535*Q)):=by rw [stL,←hn,←hQ]
 repeat (first|refine zS ?_|exact zT)
 refine SWp.loop (α:=Nat × Nat × Nat) (fun x=>mk 16 x.2.2 [(1,.sl nl none ((b.drop (65535*x.1)).map u8)),(2,.op 2 1 0)] [(2,1,.row false [.op 1000 0 0]),(1000,0,.row false (wrR x.2.1 (65540*x.1) (8*(65540*x.1)))),(1001,x.2.1,.row (nl0 (65540*x.1)) ((stK b x.1).map u8))])
  (fun x=>x.1≤Q∧x.2.2≤2+252*x.1) (fun x=>Q-x.1) (0,0,2) ⟨Nat.zero_le _,by simp⟩ (Zal rfl ?_ ?_ ?_) ?_
 ·exact Nat.le_refl _
 iterate 2 (case _=>(first|exact yU BI11|refine yR BI11 ?_))
 rintro ⟨k,g,gc⟩ ⟨hk,hgc⟩ -
 simp only at hk hgc
 obtain ⟨r,hr⟩:∃ r,r=b.drop (65535*k):=⟨_,rfl⟩
 have hrl:r.length=n-65535*k:=by rw [hr,List.length_drop,hn]
 have hkn:65535*k≤n:=zO
 have hkl:(stK b k).length=65540*k:=Zk7 zO
 obtain ⟨X,hX⟩:∃ X,X=stK b k:=⟨_,rfl⟩
 obtain ⟨m,hm⟩:∃ m,m=65540*k:=⟨_,rfl⟩
 rw [←hX,←hm] at hkl
 simp only [←hr,←hX,←hm]
 by_cases ck:65535<r.length
 ·have dk:decide ((65535:Int)<(r.length:Int))=true:=decide_eq_true zO
  have p1:=Ze6 X zO 0 zO nl (r.take 65535) (by rw [List.length_take];omega) (8*m) m (m+65540) hkl.symm rfl (by rw [List.length_take];omega)
  have hs1:X++ZlN 0 (r.take 65535)=stK b (k+1):=by rw [stK,←hX,←hr]
  rw [hs1] at p1
  have hd:r.drop 65535=b.drop (65535*(k+1)):=by rw [hr,List.drop_drop];congr 1
  have hm1:65540*(k+1)=m+65540:=zO
  repeat (first|refine zR (ja2 @List.length_map.{0,0} @dk) ?_|exact zU (ja2 @List.length_map.{0,0} @dk))
  refine Zab [(1000,0),(1001,g)] 2000 p1 zB zB ?_ ?_ ?_
  iterate 2 (case _=>(first|exact yU @wrR.eq_1|refine yR @wrR.eq_1 ?_))
  repeat (first|refine zR BI12 ?_|exact zU BI12)
  refine At.of (k+1,gc+250,gc+252) ⟨by simp only;omega,by simp only;omega⟩ (by simp only;omega) rfl rfl (Nat.le_refl _) ?_ ?_
  iterate 2 (case _=>(first|exact yU (ja3 @hd @wrR.eq_1 @hm1)|refine yR (ja3 @hd @wrR.eq_1 @hm1) ?_))
 ·have dk:decide ((65535:Int)<(r.length:Int))=false:=decide_eq_false zO
  obtain rfl:k=Q:=zO
  have p1:=Ze6 X zO 1 zO nl r zO (8*m) m m' hkl.symm rfl (by rw [hm',hstL,←hX,←hr,List.length_append,Zcx];omega)
  rw [hr,hX,←hstL,←hX,←hr] at p1
  iterate 5 (first|refine zR (ja2 @List.length_map.{0,0} @dk) ?_|exact zU (ja2 @List.length_map.{0,0} @dk))
  refine SWp.le (Zal (N:=16) (gc:=2000) (l:=[(1,.sl nl none (r.map u8)),(2,.op 2 1 0)]) (h:=[(2,1,.row false [.op 1000 0 0]),(1000,0,.row false (wrR g m (8*m))),(1001,g,.row (nl0 m) (X.map u8))]) rfl ?_ ?_ ?_) ?_
  ·(first|exact yT|refine yS ?_)
   omega
  iterate 2 (case _=>(first|exact yT|refine yS ?_))
  refine SWp.renew 1001 g (o:=.row (nl0 m) (X.map u8)) yT ?_
  refine SWp.le (Zal (N:=16) (gc:=2001) (l:=[(1,.sl nl none (r.map u8)),(2,.op 2 1 0)]) (h:=[(2,1,.row false [.op 1000 0 0]),(1000,0,.row false (wrR 2000 m (8*m))),(1001,2000,.row (nl0 m) (X.map u8))]) rfl ?_ ?_ ?_) ?_
  iterate 3 (case _=>(first|exact yU (ja3 @ZbN @wrR.eq_1 @ZbO)|refine yR (ja3 @ZbN @wrR.eq_1 @ZbO) ?_))
  repeat (first|refine zR @List.length_map.{0,0} ?_|exact zU @List.length_map.{0,0})
  refine Zab [(1000,0),(1001,2000)] 3000 p1 zB zB ?_ ?_ ?_
  iterate 2 (case _=>(first|exact yU @wrR.eq_1|refine yR @wrR.eq_1 ?_))
  repeat (first|refine zR BI0 ?_|exact zU BI0)
theorem ZuB {b:List UInt8}:(stL b).length=b.length+5*((b.length-1) / 65535+1):=by
 rw [stL,List.length_append,Zk7 zO,Zcx,List.length_drop];omega
set_option maxHeartbeats 1000000 in
theorem Zxa [Tabs Tryz.prog] (nl:Bool) (b:List UInt8) (hb:b.length≤170000):Con Tryz.prog ZcC [.sl nl none (b.map u8),.sc (.int .i64 0)] (.tup [.sl false none ((stL b).map u8),.sc (.int .i64 0)]):=by
 refine Con.of' mix Tryz.func6 rfl Tryz.ntmps6 ZkM ZkN zB (by simp only [AV.free,AV.free.freeL,Zag,Bool.and_self]) (by simp only [AV.free,AV.free.freeL,Zag,Bool.and_self]) ?_
 unfold ZgV
 obtain ⟨n,hn⟩:∃ n,n=(stL b).length:=⟨_,rfl⟩
 have hnl:=ZuB (b:=b)
 have hn0:nl0 n=false:=Zci zO
 have ps:=ZmP nl b hb n hn
 have pb:=ZoO n (8*n) (stL b) hn.symm zO
 have nw:=ZlM
 have d:decide ((16777216:Int)<(b.length:Int))=false:=decide_eq_false zO
 obtain ⟨B,hB⟩:∃ B,B=stL b:=⟨_,rfl⟩
 rw [←hB] at ps pb ⊢
 rw [hn0] at ps pb
 repeat (first|refine zR (ja2 @d @List.length_map.{0,0}) ?_|exact zU (ja2 @d @List.length_map.{0,0}))
 refine Zab [] 2000 nw zB zB ?_ ?_ ?_
 iterate 2 (case _=>(first|exact yT|refine yS ?_))
 repeat (first|refine zR iR ?_|exact zU iR)
 refine Zab [(2002,1),(2100,2)] 3000 ps zB zB ?_ ?_ ?_
 iterate 2 (case _=>(first|exact yU BI0|refine yR BI0 ?_))
 repeat (first|refine zR BI0 ?_|exact zU BI0)
 refine Zab [(2002,1),(2100,2255)] 4000 pb zB zB ?_ ?_ ?_
 iterate 2 (case _=>(first|exact yU BI0|refine yR BI0 ?_))
 repeat (first|refine zR BI0 ?_|exact zU BI0)
def Rds {α:Type} (t:BT α) (X:List Nat) (a:α):Prop:=∀ (B R:List Nat) (i:Nat),i≤B.length→B.drop i=X++R→t.run B i = .ok a (i+X.length)
theorem Rds.ret {α:Type} {a:α}:Rds (.ret a) [] a:=fun B R i hi h=>rfl
theorem Rds.bnd {α β:Type} {t:BT α} {f:α→BT β} {X Y:List Nat} {a:α} {b:β} (h:Rds t X a) (h2:Rds (f a) Y b):Rds (t.bnd f) (X++Y) b:=fun B R i hi hd=>by
 rw [List.append_assoc] at hd
 have hl:=congrArg List.length hd
 rw [List.length_drop,List.length_append] at hl
 rw [Zak,h B (Y++R) i hi hd]
 simp only [BR.bnd]
 rw [h2 B R (i+X.length) zO (by rw [←List.drop_drop,hd,List.drop_left]),List.length_append,Nat.add_assoc]
theorem Rds.bnd0 {α β:Type} {t:BT α} {f:α→BT β} {X:List Nat} {a:α} {b:β} (h:Rds t X a) (h2:Rds (f a) [] b):Rds (t.bnd f) X b:=by
 have:=h.bnd h2
 rwa [List.append_nil] at this
theorem Zk8 {v n:Nat}:Rds (Zi6 n) (Zea v n) (v % 2^n):=fun B R i hi hd=>by
 have hl:=congrArg List.length hd
 rw [List.length_drop,List.length_append,ZaP] at hl
 rw [ZlT hi,if_pos zO,hd,List.take_append_of_le_length (by rw [ZaP];exact Nat.le_refl _),List.take_of_length_le (by rw [ZaP];exact Nat.le_refl _),ZoP,ZaP]
theorem Zxb:∀ {c:List UInt8},Rds (Zso c.length) (Zae c) c
 | []=>Rds.ret
 | x::c=>by
  have e:Zae (x::c)=Zea x.toNat 8++Zae c:=rfl
  rw [e,List.length_cons,Zso]
  have hn:=Zk8 (v:=x.toNat) (n:=8)
  rw [Nat.mod_eq_of_lt x.toNat_lt] at hn
  refine hn.bnd (Rds.bnd0 (a:=c) Zxb ?_)
  rw [UInt8.ofNat_toNat]
  exact Rds.ret
theorem ZsI {u:Nat} (hu:u<2) {c:List UInt8} (hc:c.length≤65535):Zae (ZlN u c)=Zea u 3++(Zea 0 5++(Zea c.length 16++(Zea (65535-c.length) 16++Zae c))):=by
 rw [ZBq (show c.length<65536 by omega),ZBq (show 65535-c.length<65536 by omega)]
 have e1:Zc8 (UInt8.ofNat u)=Zea u 3++Zea 0 5:=by
  obtain rfl | rfl:u=0∨u=1:=zO
  ·decide
  ·decide
 rw [ZlN]
 simp only [Zae,List.flatMap_cons,e1,List.append_assoc]
theorem ZBr {most F:Nat} {out:List UInt8} {u:Nat} (hu:u<2) {c:List UInt8} (hc:c.length≤65535) (hm:out.length+c.length≤most) {B R:List Nat} {j:Nat} (hj:8*j≤B.length) (hd:B.drop (8*j)=Zae (ZlN u c)++R) :
  (ZoX most F out).run B (8*j) = .ok (decide (u % 2=1),out++c) (8*(j+5+c.length)):=by
 rw [ZsI hu hc] at hd
 have hl:=congrArg List.length hd
 simp only [List.length_drop,List.length_append,ZaP,Zad] at hl
 have h3:=Zk8 (v:=u) (n:=3) B (Zea 0 5++(Zea c.length 16++(Zea (65535-c.length) 16++Zae c))++R) (8*j) hj (by rw [hd];simp only [List.append_assoc])
 rw [Nat.mod_eq_of_lt (show u<2^3 by omega),ZaP] at h3
 rw [ZoX,Zak,h3]
 simp only [BR.bnd]
 rw [Zak,Zrx,if_pos zO,ZuK,BT.run]
 rw [show (8*j+3+7) / 8*8-(8*j+3)=5 by omega]
 have hb:Rds ((Zi6 5).bnd fun _=>(Zi6 16).bnd fun n=>(Zi6 16).bnd fun m=>if n+m≠65535 then .err 3 else (Zso n).bnd fun bs=>if most<out.length+n then .err 4 else .ret (out++bs)) (Zea 0 5++(Zea c.length 16++(Zea (65535-c.length) 16++Zae c))) (out++c):=by
  refine Zk8.bnd ?_
  have n1:=Zk8 (v:=c.length) (n:=16)
  rw [Nat.mod_eq_of_lt (show c.length<2^16 by omega)] at n1
  refine n1.bnd ?_
  have n2:=Zk8 (v:=65535-c.length) (n:=16)
  rw [Nat.mod_eq_of_lt (show 65535-c.length<2^16 by omega)] at n2
  refine n2.bnd ?_
  rw [if_neg zO]
  refine Zxb.bnd0 ?_
  rw [if_neg zO]
  exact Rds.ret
 rw [hb B R (8*j+3) zO (by rw [←List.drop_drop,hd];simp only [List.append_assoc];rw [List.drop_append_of_le_length (by rw [ZaP];exact Nat.le_refl _),List.drop_of_length_le (by rw [ZaP];exact Nat.le_refl _),List.nil_append])]
 simp only [BR.bnd,BT.run,List.length_append,ZaP,Zad]
 congr 1
 omega
theorem ZuC [Tabs Tryz.prog] (nl:Bool) (b:List UInt8) (hl:b.length≤1000000) (i n:Nat) (hi:i≤b.length) (hn:b.length<i+n) :
  HCon Tryz.prog ZaR [.op 1000 0 0,int (n:Int)] [.row false (rdR nl b i)] (.tup [.sc (.slice none 0 0),int 2]) [] 1:=by
 refine HCon.of' mix Tryz.func104 rfl Tryz.ntmps104 ZdQ ZdR zB (by simp [AV.gl,AV.gl.glL,int]) Zcw ?_
 unfold Zcb
 have d1:decide ((b.length:Int)-(i:Int)<(n:Int))=true:=decide_eq_true zO
 repeat (first|refine zR (ja3 @rdR.eq_1 @d1 @List.length_map.{0,0}) ?_|exact zU (ja3 @rdR.eq_1 @d1 @List.length_map.{0,0}))
theorem ZuD [Tabs Tryz.prog] (nl:Bool) (b:List UInt8) (hl:b.length<10):HCon Tryz.prog Zb4 [.op 1000 0 0] [.row false (rdR nl b 0)] (.tup [.sc (.int .u8 0),int 0,int 2]) [] 5:=by
 refine HCon.of' mix Tryz.func59 rfl Tryz.ntmps59 ZdK ZdL zB (by simp [AV.gl,AV.gl.glL,int]) Zcw ?_
 unfold Zb9
 repeat (first|refine zS ?_|exact zT)
 refine Zab [(1000,0)] 2000 (ZuC nl b zO 0 10 (Nat.zero_le _) zO) zB zB ?_ ?_ ?_
 iterate 2 (case _=>(first|exact yU @rdR.eq_1|refine yR @rdR.eq_1 ?_))
 repeat (first|refine zS ?_|exact zT)
theorem Zp8 [Tabs Tryz.prog] (nl:Bool) (b:List UInt8) (hl:b.length<10) (room:Int):HCon Tryz.prog Zbe [.op 1000 0 0,int room] [.row false (rdR nl b 0)] (.tup [.agg [str [],int 0,.sc (.slice none 0 0)],int 2]) [] 10:=by
 refine HCon.of' mix Tryz.func31 rfl Tryz.ntmps31 ZcX ZcY zB (by simp [AV.gl,AV.gl.glL,int]) Zcw ?_
 unfold ZbE
 repeat (first|refine zS ?_|exact zT)
 refine Zab [(1000,0)] 2000 (ZuD nl b hl) zB zB ?_ ?_ ?_
 iterate 2 (case _=>(first|exact yU @rdR.eq_1|refine yR @rdR.eq_1 ?_))
 repeat (first|refine zS ?_|exact zT)
abbrev Mx:=List UInt8 × Int × (Bool × List UInt8)
def mxV (x:Mx):AV:=.agg [str x.1,int x.2.1,.sl x.2.2.1 none (x.2.2.2.map u8)]
def mxK (x:Mx):List UInt8 × Int × List UInt8:=(x.1,x.2.1,x.2.2.2)
theorem Zza {l:List Mx}:AV.free.freeL (l.map mxV)=true:=ZcZ.2 fun x hx=>by
 obtain ⟨m,_,rfl⟩:=List.mem_map.1 hx
 simp only [mxV,AV.free,AV.free.freeL,str,int,Zag,Bool.and_self]
theorem ZsJ {l:List Mx} {k:Nat} (h:k<l.length):(l.map mxV).getD k .junk=mxV l[k]:=by simp [List.getD,List.getElem?_eq_getElem h]
set_option maxHeartbeats 1000000 in
theorem ZuE [Tabs Tryz.prog] (n1 n2:Bool) (xs ys:List Mx) (h:xs.map mxK=ys.map mxK) (hl:xs.length≤1000):Con Tryz.prog Zdf [.sl n1 (some 3) (xs.map mxV),.sl n2 (some 3) (ys.map mxV)] (boo true):=by
 refine Con.of' mix Tryz.func12 rfl Tryz.ntmps12 ZfW ZfX zB (by simp only [AV.free,AV.free.freeL,Zza,Bool.and_self]) rfl ?_
 unfold Zdn
 have hlen:ys.length=xs.length:=by have:=congrArg List.length h;simpa using this.symm
 have dn:decide ((xs.length:Int)=(xs.length:Int))=true:=decide_eq_true rfl
 repeat (first|refine zR (ja3 @List.length_map.{0,0} @hlen @dn) ?_|exact zU (ja3 @List.length_map.{0,0} @hlen @dn))
 refine SWp.loop (α:=Nat) (fun k=>mk 56 0 [(0,.sl n1 (some 3) (xs.map mxV)),(1,.sl n2 (some 3) (ys.map mxV)),(5,int (k:Int))] [])
  (fun k=>k≤xs.length) (fun k=>xs.length-k) 0 (Nat.zero_le _) (Zal rfl ?_ ?_ ?_) ?_
 ·exact Nat.le_refl _
 iterate 2 (case _=>(first|exact yT|refine yS ?_))
 rintro k hk -
 by_cases c:k<xs.length
 ·have dk:decide ((k:Int)<(xs.length:Int))=true:=decide_eq_true zO
  have g1:=ZsJ c
  have g2:=ZsJ (l:=ys) (k:=k) zO
  have e:=congrArg (fun l=>l[k]?) h
  simp only [List.getElem?_map,List.getElem?_eq_getElem c,List.getElem?_eq_getElem (show k<ys.length by omega),Option.map_some,Option.some.injEq] at e
  obtain ⟨x,hx⟩:∃ x,x=xs[k]:=⟨_,rfl⟩
  obtain ⟨y,hy⟩:∃ y,y=ys[k]:=⟨_,rfl⟩
  rw [←hx] at g1 e
  rw [←hy] at g2 e
  obtain ⟨x1,x2,x3,x4⟩:=x
  obtain ⟨y1,y2,y3,y4⟩:=y
  simp only [mxK,Prod.mk.injEq] at e
  obtain ⟨rfl,rfl,rfl⟩:=e
  have s1:decide ((⟨x1.toArray⟩:ByteArray).data.toList=(⟨x1.toArray⟩:ByteArray).data.toList)=true:=decide_eq_true rfl
  have s2:decide (x2=x2)=true:=decide_eq_true rfl
  have s3:decide ((⟨x4.toArray⟩:ByteArray).data.toList=(⟨x4.toArray⟩:ByteArray).data.toList)=true:=decide_eq_true rfl
  simp only [mxV] at g1 g2
  clear hx hy h
  repeat (first|refine zR (ja8 @List.length_map.{0,0} @hlen @dk @g1 @g2 @s1 @s2 @s3) ?_|exact zU (ja8 @List.length_map.{0,0} @hlen @dk @g1 @g2 @s1 @s2 @s3))
  refine At.of (k+1) zO zO rfl rfl (Nat.le_refl _) ?_ ?_
  iterate 2 (case _=>(first|exact yT|refine yS ?_))
 ·obtain rfl:k=xs.length:=zO
  have dk:decide ((xs.length:Int)<(xs.length:Int))=false:=decide_eq_false zO
  repeat (first|refine zR (ja2 @List.length_map.{0,0} @dk) ?_|exact zU (ja2 @List.length_map.{0,0} @dk))
end Go.Proofs.YtfplkgciebjehabGreatDoor.Aw
namespace Go.Proofs.YtfplkgciebjehabGreatDoor.Aw
open Go Go.Shelf
set_option linter.defProp false
set_option maxRecDepth 100000
set_option linter.unusedSimpArgs false
set_option linter.unusedVariables false
theorem Zzb {P:Program} (w:World) (a:Addr) (k:Nat) (cv:Int) :
  (Extern.BytealgIndexByte.indexByte #[.slice (some a) 0 k,.int .u8 cv]).run P w = .ok (.int .i64 (-1)) w:=by
 have hl:=Lib.run_loadBytesX (P:=P) w [] a .empty zB
 have hs:=Lib.run_indexByteString (P:=P) .empty cv w
 have he:(⟨ByteArray.empty.data++(Lib.bytesOf []).toArray⟩:ByteArray) = .empty:=rfl
 rw [he] at hl
 change Sem.run P (do
  let b ← Extern.Bytes.bytesOf (.slice (some a) 0 k)
  let c ← Extern.Bytes.asByte (.int .u8 cv)
  match (List.range b.size).find? fun i=>b[i]! ==c with
  | some i=>pure (goInt i)
  | none=>pure (goInt (-1))) w=_
 change Sem.run P (do
  let b ← Extern.Bytes.bytesOf (.string .empty)
  let c ← Extern.Bytes.asByte (.int .u8 cv)
  match (List.range b.size).find? fun i=>b[i]! ==c with
  | some i=>pure (goInt i)
  | none=>pure (goInt (-1))) w=_ at hs
 simp only [List.length_nil] at hl
 simp only [Extern.Bytes.bytesOf,Sem.run_bind,Sem.run_pure,hl,Result.andThen] at hs ⊢
 exact hs
set_option maxHeartbeats 1000000 in
theorem Zzc {P:Program} {ρ:Ren} (L:Lays.n187 P ρ) (a:Addr) (k:Nat) (cv:Int) (w:World) :
  Calls P (ρ.f 187) #[.slice (some a) 0 k,.int .u8 cv] w fun e w'=>e = .returned (.int .i64 (-1))∧w'=w:=by
 have t3:=L.t3;have t5:=L.t5;have t37:=L.t37
 have a3:=L.a3;have a5:=L.a5;have a37:=L.a37
 have mixed:=L.mixed;have z3:=L.z3;have v3:=L.v3;have z5:=L.z5;have v5:=L.v5;have z37:=L.z37;have v37:=L.v37
 go_enter L.f187,Body.n187_ntmps ρ
 go_wp2
 rw [run_callFunc_extern L.f255 (by kernel_rfl) (by kernel_rfl) (by kernel_rfl) (e:=Extern.BytealgIndexByte.indexByte) (by kernel_rfl),Zzb w a k cv]
 simp only [Result.andThen]
 rw [Oper.upon_value]
 go_wp2
 go_ret
 exact ⟨rfl,rfl⟩
theorem Zkr [Tabs Tryz.prog] (nl:Bool) (c:UInt8):Con Tryz.prog ZcB [.sl nl none [],.sc (.int .u8 c.toNat)] (.sc (.int .i64 (-1))):=by
 intro w S vs _ hS hr
 simp only [RdL] at hr
 obtain ⟨v,r,rfl,h1,v2,r2,rfl,h2,rfl⟩:=hr
 simp only [Rd] at h1 h2
 subst h2
 obtain ⟨base,len,cap,us,rfl,rfl,hlc,hus,_,hbc,hcell⟩:=h1
 obtain rfl:us=[]:=by simpa [RdL] using hus
 cases base with
 | none =>
  obtain rfl:=hbc rfl
  have hc:=Tryz.bytes_IndexByte_nil c.toNat w
  refine Calls.mono hc ?_
  rintro e w' ⟨rfl,rfl⟩
  exact ⟨_,S,rfl,Keep.refl _ _ _,fun _ h=>h,fun _ h=>.inl h,hS,rfl,by simp [Rd]⟩
 | some a =>
  have hc:Calls Tryz.prog 138 #[.slice (some a) 0 cap,.int .u8 (c.toNat:Int)] w fun e w'=>e = .returned (.int .i64 (-1))∧w'=w:=Zzc Tryz.lays187 a cap c.toNat w
  refine Calls.mono hc ?_
  rintro e w' ⟨rfl,rfl⟩
  exact ⟨_,S,rfl,Keep.refl _ _ _,fun _ h=>h,fun _ h=>.inl h,hS,rfl,by simp [Rd]⟩
end Go.Proofs.YtfplkgciebjehabGreatDoor.Aw
namespace Go.Proofs.YtfplkgciebjehabGreatDoor.Aw
open Go
set_option linter.defProp false
set_option maxRecDepth 100000
set_option linter.unusedSimpArgs false
set_option linter.unusedVariables false
theorem k2:AV.sc (.int .u32 2)=w32 2:=rfl
theorem kF:AV.sc (.int .u32 4294967295)=w32 4294967295:=rfl
theorem ZDe {c:UInt32}:ZhX .rem (w32 c) (w32 2)=(True,w32 (c % 2)):=Zre (by decide)
theorem ZDf {c:UInt32}:ZhX .quo (w32 c) (w32 2)=(True,w32 (c / 2)):=Zwc (by decide)
theorem Zxc (c:UInt32):(c&&&1=0)↔¬ (c % 2=1):=by
 have h1:(c&&&1).toNat=c.toNat % 2:=by rw [UInt32.toNat_and];exact Nat.and_one_is_mod _
 have h2:(c % 2).toNat=c.toNat % 2:=by rw [UInt32.toNat_mod];rfl
 rw [←UInt32.toNat_inj,←UInt32.toNat_inj,h1,h2]
 show c.toNat % 2=0↔¬ c.toNat % 2=1
 omega
theorem Zxd (c:UInt32):c / 2=UInt32.ofNat (c.toNat / 2):=by
 apply UInt32.toNat_inj.1
 have:=c.toNat_lt
 rw [UInt32.toNat_div,UInt32.toNat_ofNat',Nat.mod_eq_of_lt zO];rfl
theorem Zp9 [Tabs Tryz.prog] (nl:Bool) (l:List UInt8) (hl:l.length≤1000000):Con Tryz.prog ZdF [.sl nl none (l.map u8)] (w32 (Zdr 0 l)):=by
 refine Con.of' mix Tryz.func65 rfl Tryz.ntmps65 Zke Zkf zB (by simp only [AV.free.freeL,AV.free,Zag,Bool.and_self]) rfl ?_
 unfold Zgv
 have hm:Zdr 0 l = ~~~(Zuv 4294967295 l):=rfl
 repeat (first|refine zR @kF ?_|exact zU @kF)
 refine SWp.loop (α:=Nat) (fun k=>mk 34 0 [(0,.sl nl none (l.map u8)),(3,w32 (Zuv 4294967295 (l.take k))),(4,int k)] [])
  (fun k=>k≤l.length) (fun k=>l.length-k) 0 (Nat.zero_le _) (Zal rfl ?_ ?_ ?_) ?_
 ·exact Nat.le_refl _
 ·(first|exact yT|refine yS ?_)
  rfl
 ·(first|exact yT|refine yS ?_)
 rintro k hk -
 repeat (first|refine zS ?_|exact zT)
 refine SWp.cond rfl (fun h=>?_) (fun h=>?_)
 ·simp only [decide_eq_true_eq] at h
  have hk':k<l.length:=zO
  have hs:Zuv 4294967295 (l.take (k+1))=Zkv (Zuv 4294967295 (l.take k) ^^^ UInt32.ofNat (l.getD k 0).toNat) 8:=by rw [Zp0 l k hk',Zp1];rfl
  obtain ⟨c,hc⟩:∃ c,c=Zuv 4294967295 (l.take k) ^^^ UInt32.ofNat (l.getD k 0).toNat:=⟨_,rfl⟩
  rw [←hc] at hs
  repeat (first|refine zR hc.symm ?_|exact zU hc.symm)
  refine SWp.loop (α:=Nat) (fun j=>mk 34 0 [(0,.sl nl none (l.map u8)),(3,w32 (Zkv c j)),(4,int k),(5,int j)] [])
   (fun j=>j≤8) (fun j=>8-j) 0 (Nat.zero_le _) (Zal rfl ?_ ?_ ?_) ?_
  ·exact Nat.le_refl _
  iterate 2 (case _=>(first|exact yU (ja3 @Zkv.eq_1 @Zkv.eq_2 hc.symm)|refine yR (ja3 @Zkv.eq_1 @Zkv.eq_2 hc.symm) ?_))
  rintro j hj -
  repeat (first|refine zS ?_|exact zT)
  refine SWp.cond rfl (fun h=>?_) (fun h=>?_)
  ·simp only [decide_eq_true_eq] at h
   by_cases c0:Zkv c j % 2=1
   ·have d0:=decide_eq_true c0
    have he:Zkv c (j+1)=Zkv c j / 2 ^^^ 3988292384:=by simp only [Zkv,ZmM];rw [if_neg (fun h=>(Zxc _).1 h c0),Zxd]
    repeat (first|refine zR (ja6 @d0 @k1 @k2 @kP @ZDe @ZDf) ?_|exact zU (ja6 @d0 @k1 @k2 @kP @ZDe @ZDf))
    refine At.of (j+1) zO zO rfl rfl (Nat.le_refl _) ?_ ?_
    iterate 2 (case _=>(first|exact yU @he|refine yR @he ?_))
   ·have d0:=decide_eq_false c0
    have he:Zkv c (j+1)=Zkv c j / 2:=by simp only [Zkv,ZmM];rw [if_pos ((Zxc _).2 c0),Zxd]
    repeat (first|refine zR (ja6 @d0 @k1 @k2 @kP @ZDe @ZDf) ?_|exact zU (ja6 @d0 @k1 @k2 @kP @ZDe @ZDf))
    refine At.of (j+1) zO zO rfl rfl (Nat.le_refl _) ?_ ?_
    iterate 2 (case _=>(first|exact yU @he|refine yR @he ?_))
  ·simp only [decide_eq_false_iff_not] at h
   obtain rfl:j=8:=zO
   repeat (first|refine zS ?_|exact zT)
   refine At.of (k+1) zO zO rfl rfl (Nat.le_refl _) ?_ ?_
   iterate 2 (case _=>(first|exact yU @hs|refine yR @hs ?_))
 ·simp only [decide_eq_false_iff_not] at h
  obtain rfl:k=l.length:=zO
  repeat (first|refine zR (ja2 @List.take_length.{0} @hm) ?_|exact zU (ja2 @List.take_length.{0} @hm))
theorem ZhC [Tabs Tryz.prog] (nl:Bool) (b:List UInt8) (hl:b.length≤1000000) (i n:Nat) (hi:i≤b.length) (hn:b.length<i+n) :
  HCon Tryz.prog ZaR [.op 1000 0 0,int (n:Int)] [.row false (rdR nl b i)] (.tup [.sc (.slice none 0 0),int 2]) [(1000,0,.row false (rdR nl b i))] 1:=by
 refine HCon.of' mix Tryz.func104 rfl Tryz.ntmps104 ZdQ ZdR zB (by simp [AV.gl,AV.gl.glL,int]) Zcw ?_
 unfold Zcb
 have d1:decide ((b.length:Int)-(i:Int)<(n:Int))=true:=decide_eq_true zO
 repeat (first|refine xR (ja3 @rdR.eq_1 @d1 @List.length_map.{0,0}) ?_|exact xU (ja3 @rdR.eq_1 @d1 @List.length_map.{0,0}))
theorem ZnP [Tabs Tryz.prog] (nl:Bool) (b:List UInt8) (hl:b.length≤1000000) (i:Nat) (hi:i≤b.length) (hk:Lib.indexByte (b.drop i) 0<0) :
  HCon Tryz.prog Zb6 [.op 1000 0 0] [.row false (rdR nl b i)] (.tup [.sc (.slice none 0 0),int 2]) [(1000,0,.row false (rdR nl b i))] 1:=by
 refine HCon.of' mix Tryz.func108 rfl Tryz.ntmps108 Zgo Zgp zB (by simp [AV.gl,AV.gl.glL,int]) Zcw ?_
 unfold ZdU
 have p1:Con Tryz.prog ZcB [.sl nl none ((b.drop i).map u8),.sc (.int .u8 (0:UInt8).toNat)] (.sc (.int .i64 (Lib.indexByte (b.drop i) 0))):=by
  by_cases e:b.drop i=[]
  ·rw [e]
   exact Zkr nl 0
  ·exact Zhe nl (b.drop i) e 0
 have d1:=decide_eq_true hk
 have htl:b.take b.length=b:=List.take_length
 obtain ⟨k,hkk⟩:∃ k,k=Lib.indexByte (b.drop i) 0:=⟨_,rfl⟩
 rw [←hkk] at p1 d1
 repeat (first|refine xR (ja3 @rdR.eq_1 @List.length_map.{0,0} @htl) ?_|exact xU (ja3 @rdR.eq_1 @List.length_map.{0,0} @htl))
 refine Zaq _ (.inl ⟨by simp only [AV.free,AV.free.freeL,Zag,Bool.and_self],p1⟩) ?_
 repeat (first|refine xR (ja3 @rdR.eq_1 @d1 @List.length_map.{0,0}) ?_|exact xU (ja3 @rdR.eq_1 @d1 @List.length_map.{0,0}))
theorem ZuF [Tabs Tryz.prog] (nl:Bool) (b:List UInt8) (hl:b.length≤1000000) (i:Nat) (hi:i≤b.length) (hk:Lib.indexByte (b.drop i) 0<0) :
  HCon Tryz.prog Zb5 [.op 1000 0 0] [.row false (rdR nl b i)] (.tup [str [],int 2]) [(1000,0,.row false (rdR nl b i))] 5:=by
 refine HCon.of' mix Tryz.func107 rfl Tryz.ntmps107 ZdS ZdT zB (by simp [AV.gl,AV.gl.glL,int]) Zcw ?_
 unfold Zcc
 repeat (first|refine xS ?_|exact xT)
 refine Zab [(1000,0)] 2000 (ZnP nl b hl i hi hk) zB zB ?_ ?_ ?_
 iterate 2 (case _=>(first|exact vU @rdR.eq_1|refine vR @rdR.eq_1 ?_))
 repeat (first|refine xR @rdR.eq_1 ?_|exact xU @rdR.eq_1)
theorem Zqa [Tabs Tryz.prog] (nl:Bool) (b:List UInt8) (hl:b.length≤1000000) (i k:Nat) (hk:Lib.indexByte (b.drop i) 0=(k:Int)) (hn:i+k<b.length) (h2:200<k) :
  HCon Tryz.prog Zb5 [.op 1000 0 0] [.row false (rdR nl b i)] (.tup [str [],int 10]) [(1000,0,.row false (rdR nl b (i+(k+1))))] 5:=by
 refine HCon.of' mix Tryz.func107 rfl Tryz.ntmps107 ZdS ZdT zB (by simp [AV.gl,AV.gl.glL,int]) Zcw ?_
 unfold Zcc
 have p1:=ZmN nl b hl i k hk hn
 obtain ⟨nm,hnm⟩:∃ nm,nm=(b.drop i).take k:=⟨_,rfl⟩
 rw [←hnm] at p1
 have hnl:nm.length=k:=by rw [hnm,List.length_take,List.length_drop];omega
 have d1:decide ((200:Int)<(k:Int))=true:=decide_eq_true zO
 repeat (first|refine xS ?_|exact xT)
 refine Zab [(1000,0)] 2000 p1 zB zB ?_ ?_ ?_
 iterate 2 (case _=>(first|exact vU @rdR.eq_1|refine vR @rdR.eq_1 ?_))
 repeat (first|refine xR (ja4 @rdR.eq_1 @d1 @List.length_map.{0,0} @hnl) ?_|exact xU (ja4 @rdR.eq_1 @d1 @List.length_map.{0,0} @hnl))
def two (b:List UInt8) (i:Nat):Nat:=leN ((b.drop i).take 2)
theorem ZnQ {b:List UInt8} {i:Nat} (h:i+2≤b.length):two b i<65536∧Zbr ((b.drop i).take 2) 0 2 = .tup [.sc (.int .u64 (two b i:Int)),boo true]:=by
 have hl:((b.drop i).take 2).length=2:=by rw [List.length_take,List.length_drop];omega
 unfold two
 obtain ⟨t,ht⟩:∃ t,t=(b.drop i).take 2:=⟨_,rfl⟩
 rw [←ht] at hl ⊢
 match t,hl with
 | [x,y],_ =>
  have hx:=x.toNat_lt
  have hy:=y.toNat_lt
  have e:leN [x,y]=x.toNat+256*y.toNat:=by simp [leN,beN];omega
  refine ⟨by rw [e];omega,?_⟩
  unfold Zbr
  rw [if_pos (by simp [stB]),show ((0:Int).toNat)=0 from rfl]
  rfl
theorem ZrS [Tabs Tryz.prog] (nl:Bool) (b:List UInt8) (hl:b.length≤1000000) (i:Nat) (hi:i≤b.length) (h:b.length<i+2) :
  HCon Tryz.prog ZbS [.op 1000 0 0] [.row false (rdR nl b i)] (int 2) [(1000,0,.row false (rdR nl b i))] 5:=by
 refine HCon.of' mix Tryz.func106 rfl Tryz.ntmps106 Zdk Zdl zB (by simp [AV.gl,AV.gl.glL,int]) Zcw ?_
 unfold ZbT
 repeat (first|refine xS ?_|exact xT)
 refine Zab [(1000,0)] 2000 (ZhC nl b hl i 2 hi h) zB zB ?_ ?_ ?_
 iterate 2 (case _=>(first|exact vU @rdR.eq_1|refine vR @rdR.eq_1 ?_))
 repeat (first|refine xR @rdR.eq_1 ?_|exact xU @rdR.eq_1)
theorem ZuG [Tabs Tryz.prog] (nl:Bool) (b:List UInt8) (hl:b.length≤1000000) (i:Nat) (h:i+2≤b.length) (h2:i+2+two b i≤b.length) :
  HCon Tryz.prog ZbS [.op 1000 0 0] [.row false (rdR nl b i)] (int 0) [(1000,0,.row false (rdR nl b (i+2+two b i)))] 5:=by
 refine HCon.of' mix Tryz.func106 rfl Tryz.ntmps106 Zdk Zdl zB (by simp [AV.gl,AV.gl.glL,int]) Zcw ?_
 unfold ZbT
 obtain ⟨hw,hg⟩:=ZnQ h
 have p1:=Zf3 nl b hl i 2 h
 have p2:=Zff nl ((b.drop i).take 2) (by rw [List.length_take];omega) 0 2
 rw [hg] at p2
 obtain ⟨t,ht⟩:∃ t,t=(b.drop i).take 2:=⟨_,rfl⟩
 rw [←ht] at p1 p2
 have p3:=Zf3 nl b hl (i+2) (two b i) h2
 obtain ⟨n,hn⟩:∃ n,n=two b i:=⟨_,rfl⟩
 rw [←hn] at p2 p3 hw ⊢
 obtain ⟨j,hj⟩:∃ j,j=i+2:=⟨_,rfl⟩
 rw [←hj] at p1 p3 ⊢
 have hwr:IntKind.i64.wrap (n:Int)=(n:Int):=Zch zO zO
 repeat (first|refine xS ?_|exact xT)
 refine Zab [(1000,0)] 2000 p1 zB zB ?_ ?_ ?_
 iterate 2 (case _=>(first|exact vU @rdR.eq_1|refine vR @rdR.eq_1 ?_))
 repeat (first|refine xR @rdR.eq_1 ?_|exact xU @rdR.eq_1)
 refine Zaq _ (.inl ⟨by simp only [AV.free,AV.free.freeL,Zag,Bool.and_self],p2⟩) ?_
 repeat (first|refine xR (ja2 @rdR.eq_1 @hwr) ?_|exact xU (ja2 @rdR.eq_1 @hwr))
 refine Zab [(1000,0)] 3000 p3 zB zB ?_ ?_ ?_
 iterate 2 (case _=>(first|exact vU @rdR.eq_1|refine vR @rdR.eq_1 ?_))
 repeat (first|refine xR @rdR.eq_1 ?_|exact xU @rdR.eq_1)
theorem Zm9 [Tabs Tryz.prog] (nl:Bool) (b:List UInt8) (hl:b.length≤1000000) (i:Nat) (h:i+2≤b.length) (h2:b.length<i+2+two b i) :
  HCon Tryz.prog ZbS [.op 1000 0 0] [.row false (rdR nl b i)] (int 2) [(1000,0,.row false (rdR nl b (i+2)))] 5:=by
 refine HCon.of' mix Tryz.func106 rfl Tryz.ntmps106 Zdk Zdl zB (by simp [AV.gl,AV.gl.glL,int]) Zcw ?_
 unfold ZbT
 obtain ⟨hw,hg⟩:=ZnQ h
 have p1:=Zf3 nl b hl i 2 h
 have p2:=Zff nl ((b.drop i).take 2) (by rw [List.length_take];omega) 0 2
 rw [hg] at p2
 obtain ⟨t,ht⟩:∃ t,t=(b.drop i).take 2:=⟨_,rfl⟩
 rw [←ht] at p1 p2
 have p3:=ZhC nl b hl (i+2) (two b i) zO h2
 obtain ⟨n,hn⟩:∃ n,n=two b i:=⟨_,rfl⟩
 rw [←hn] at p2 p3 hw
 obtain ⟨j,hj⟩:∃ j,j=i+2:=⟨_,rfl⟩
 rw [←hj] at p1 p3 ⊢
 have hwr:IntKind.i64.wrap (n:Int)=(n:Int):=Zch zO zO
 repeat (first|refine xS ?_|exact xT)
 refine Zab [(1000,0)] 2000 p1 zB zB ?_ ?_ ?_
 iterate 2 (case _=>(first|exact vU @rdR.eq_1|refine vR @rdR.eq_1 ?_))
 repeat (first|refine xR @rdR.eq_1 ?_|exact xU @rdR.eq_1)
 refine Zaq _ (.inl ⟨by simp only [AV.free,AV.free.freeL,Zag,Bool.and_self],p2⟩) ?_
 repeat (first|refine xR (ja2 @rdR.eq_1 @hwr) ?_|exact xU (ja2 @rdR.eq_1 @hwr))
 refine Zab [(1000,0)] 3000 p3 zB zB ?_ ?_ ?_
 iterate 2 (case _=>(first|exact vU @rdR.eq_1|refine vR @rdR.eq_1 ?_))
 repeat (first|refine xR @rdR.eq_1 ?_|exact xU @rdR.eq_1)
theorem ZoQ [Tabs Tryz.prog] (n1 n2:Bool) (a b:List UInt8):Con Tryz.prog Zj3 [.sl n1 none (a.map u8),.sl n2 none (b.map u8)] (boo (decide (a=b))):=by
 refine Con.of' mix Tryz.func139 rfl Tryz.ntmps139 Zoi Zoj zB (by simp only [AV.free,AV.free.freeL,Zag,Bool.and_self]) rfl ?_
 unfold Zj4
 obtain ⟨d,hd⟩:∃ d,d=decide (a=b):=⟨_,rfl⟩
 repeat (first|refine xR hd.symm ?_|exact xU hd.symm)
def BI6:=ja2 @rdR.eq_1 @List.length_map.{0,0}
theorem ZoR [Tabs Tryz.prog] (nl:Bool) (b:List UInt8) (hl:b.length≤1000000) (i:Nat) (hi:i≤b.length) (h:b.length<i+2) :
  HCon Tryz.prog Zcm [.op 1000 0 0] [.row false (rdR nl b i)] (int 2) [(1000,0,.row false (rdR nl b i))] 5:=by
 refine HCon.of' mix Tryz.func109 rfl Tryz.ntmps109 Zev Zew zB (by simp [AV.gl,AV.gl.glL,int]) Zcw ?_
 unfold Zco
 have p0:=Zip nl (b.take i) (by rw [List.length_take];omega)
 repeat (first|refine xR BI6 ?_|exact xU BI6)
 refine Zaq _ (.inl ⟨by simp only [AV.free,AV.free.freeL,Zag,Bool.and_self],p0⟩) ?_
 repeat (first|refine xR @rdR.eq_1 ?_|exact xU @rdR.eq_1)
 refine Zab [(1000,0)] 2000 (ZhC nl b hl i 2 hi h) zB zB ?_ ?_ ?_
 iterate 2 (case _=>(first|exact vU @rdR.eq_1|refine vR @rdR.eq_1 ?_))
 repeat (first|refine xR @rdR.eq_1 ?_|exact xU @rdR.eq_1)
theorem Zqb [Tabs Tryz.prog] (nl:Bool) (b:List UInt8) (hl:b.length≤1000000) (i:Nat) (h:i+2≤b.length) (e:Int) (he:e=if (b.drop i).take 2=leB (Zdr 0 (b.take i)).toNat 2 then 0 else 5) :
  HCon Tryz.prog Zcm [.op 1000 0 0] [.row false (rdR nl b i)] (int e) [(1000,0,.row false (rdR nl b (i+2)))] 5:=by
 refine HCon.of' mix Tryz.func109 rfl Tryz.ntmps109 Zev Zew zB (by simp [AV.gl,AV.gl.glL,int]) Zcw ?_
 unfold Zco
 have p0:=Zip nl (b.take i) (by rw [List.length_take];omega)
 obtain ⟨s,hs⟩:∃ s,s=Zdr 0 (b.take i):=⟨_,rfl⟩
 rw [←hs] at p0 he
 have hsl:=s.toNat_lt
 have p1:=Zf3 nl b hl i 2 h
 have p2:=ZiA s.toNat zO 2 zO zO
 have hw:IntKind.u64.wrap (s.toNat:Int)=(s.toNat:Int):=Zbd zO zO
 rw [show leR s.toNat 2 = .sl false none ((leB s.toNat 2).map u8) from rfl] at p2
 obtain ⟨t,ht⟩:∃ t,t=(b.drop i).take 2:=⟨_,rfl⟩
 have p3:=ZoQ nl false t (leB s.toNat 2)
 rw [←ht] at p1 he
 obtain ⟨q,hq⟩:∃ q,q=leB s.toNat 2:=⟨_,rfl⟩
 rw [←hq] at p2 p3 he
 by_cases c:t=q
 ·rw [if_pos c] at he
  subst he
  rw [decide_eq_true c] at p3
  clear hs hq ht
  repeat (first|refine xR BI6 ?_|exact xU BI6)
  refine Zaq _ (.inl ⟨by simp only [AV.free,AV.free.freeL,Zag,Bool.and_self],p0⟩) ?_
  repeat (first|refine xR @rdR.eq_1 ?_|exact xU @rdR.eq_1)
  refine Zab [(1000,0)] 2000 p1 zB zB ?_ ?_ ?_
  iterate 2 (case _=>(first|exact vU @rdR.eq_1|refine vR @rdR.eq_1 ?_))
  repeat (first|refine xR (ja2 @rdR.eq_1 @hw) ?_|exact xU (ja2 @rdR.eq_1 @hw))
  refine Zaq _ (.inl ⟨rfl,p2⟩) ?_
  repeat (first|refine xR @rdR.eq_1 ?_|exact xU @rdR.eq_1)
  refine Zaq _ (.inl ⟨by simp only [AV.free,AV.free.freeL,Zag,Bool.and_self],p3⟩) ?_
  repeat (first|refine xR @rdR.eq_1 ?_|exact xU @rdR.eq_1)
 ·rw [if_neg c] at he
  subst he
  rw [decide_eq_false c] at p3
  clear hs hq ht
  repeat (first|refine xR BI6 ?_|exact xU BI6)
  refine Zaq _ (.inl ⟨by simp only [AV.free,AV.free.freeL,Zag,Bool.and_self],p0⟩) ?_
  repeat (first|refine xR @rdR.eq_1 ?_|exact xU @rdR.eq_1)
  refine Zab [(1000,0)] 2000 p1 zB zB ?_ ?_ ?_
  iterate 2 (case _=>(first|exact vU @rdR.eq_1|refine vR @rdR.eq_1 ?_))
  repeat (first|refine xR (ja2 @rdR.eq_1 @hw) ?_|exact xU (ja2 @rdR.eq_1 @hw))
  refine Zaq _ (.inl ⟨rfl,p2⟩) ?_
  repeat (first|refine xR @rdR.eq_1 ?_|exact xU @rdR.eq_1)
  refine Zaq _ (.inl ⟨by simp only [AV.free,AV.free.freeL,Zag,Bool.and_self],p3⟩) ?_
  repeat (first|refine xR @rdR.eq_1 ?_|exact xU @rdR.eq_1)
theorem ZCY {f:Nat} (hf:f<256):(decide (((f&&&4:Nat):Int)=0)=decide (f / 4 % 2=0))∧(decide (((f&&&8:Nat):Int)=0)=decide (f / 8 % 2=0))∧(decide (((f&&&16:Nat):Int)=0)=decide (f / 16 % 2=0))∧(decide (((f&&&2:Nat):Int)=0)=decide (f / 2 % 2=0)):=by
 have h:∀ f,f<256→(decide ((f&&&4)=0)=decide (f / 4 % 2=0))∧(decide ((f&&&8)=0)=decide (f / 8 % 2=0))∧(decide ((f&&&16)=0)=decide (f / 16 % 2=0))∧(decide ((f&&&2)=0)=decide (f / 2 % 2=0)):=by decide +kernel
 have e:∀ n:Nat,decide ((n:Int)=0)=decide (n=0):=fun n=>decide_eq_decide.2 zO
 rw [e,e,e,e]
 exact h f hf
def tS1 (b:List UInt8) (f i:Nat):Nat × Nat :=
 if f / 4 % 2=0 then (i,0) else if b.length<i+2 then (i,2) else if b.length<i+2+two b i then (i+2,2) else (i+2+two b i,0)
def tS2 (b:List UInt8) (f:Nat) (p:Nat × Nat):List UInt8 × Nat × Nat :=
 if p.2=0 then (if f / 8 % 2=0 then ([],p.1,0) else if Lib.indexByte (b.drop p.1) 0<0 then ([],p.1,2) else if 200<(Lib.indexByte (b.drop p.1) 0).toNat then ([],p.1+((Lib.indexByte (b.drop p.1) 0).toNat+1),10) else ((b.drop p.1).take (Lib.indexByte (b.drop p.1) 0).toNat,p.1+((Lib.indexByte (b.drop p.1) 0).toNat+1),0)) else ([],p.1,p.2)
def tS3 (b:List UInt8) (f:Nat) (p:Nat × Nat):Nat × Nat :=
 if p.2=0 then (if f / 16 % 2=0 then (p.1,0) else if Lib.indexByte (b.drop p.1) 0<0 then (p.1,2) else (p.1+((Lib.indexByte (b.drop p.1) 0).toNat+1),0)) else p
def tS4 (b:List UInt8) (f:Nat) (p:Nat × Nat):Nat × Nat :=
 if p.2=0 then (if f / 2 % 2=0 then (p.1,0) else if b.length<p.1+2 then (p.1,2) else (p.1+2,if (b.drop p.1).take 2=leB (Zdr 0 (b.take p.1)).toNat 2 then 0 else 5)) else p
theorem ZsK:∀ {l:List UInt8},Lib.indexByte l 0<l.length
 | []=>by decide
 | c::l=>by
  have:=ZsK (l:=l)
  unfold Lib.indexByte
  simp only [List.length_cons]
  split
  ·omega
  ·split <;> omega
theorem ZhD {l:List UInt8} (h:¬ Lib.indexByte l 0<0):((Lib.indexByte l 0).toNat:Int)=Lib.indexByte l 0∧(Lib.indexByte l 0).toNat<l.length:=by
 have:=ZsK (l:=l)
 omega
theorem Zxe {b:List UInt8} {f i:Nat} (h:i≤b.length):(tS1 b f i).1≤b.length:=by
 unfold tS1
 split
 ·exact h
 split
 ·exact h
 split <;> (simp only;omega)
theorem Zxf {b:List UInt8} {f:Nat} {p:Nat × Nat} (h:p.1≤b.length):(tS2 b f p).2.1≤b.length:=by
 unfold tS2
 split
 ·split
  ·exact h
  split
  ·exact h
  ·rename_i c
   have:=ZhD c
   rw [List.length_drop] at this
   split <;> (simp only;omega)
 ·exact h
theorem Zxg {b:List UInt8} {f:Nat} {p:Nat × Nat} (h:p.1≤b.length):(tS3 b f p).1≤b.length:=by
 unfold tS3
 split
 ·split
  ·exact h
  split
  ·exact h
  ·rename_i c
   have:=ZhD c
   rw [List.length_drop] at this
   simp only;omega
 ·exact h
def ZhW (b:List UInt8) (f i:Nat):List UInt8 × Nat × Nat :=
 ((tS2 b f (tS1 b f i)).1,tS4 b f (tS3 b f (tS2 b f (tS1 b f i)).2))
set_option maxHeartbeats 1000000 in
theorem Zxh [Tabs Tryz.prog] (nl:Bool) (b:List UInt8) (hl:b.length≤1000000) (i:Nat) (hi:i≤b.length) (f:UInt8) :
  HCon Tryz.prog Zbz [.op 1000 0 0,.sc (.int .u8 (f.toNat:Int))] [.row false (rdR nl b i)] (.tup [str (ZhW b f.toNat i).1,int ((ZhW b f.toNat i).2.2:Int)]) [(1000,0,.row false (rdR nl b (ZhW b f.toNat i).2.1))] 20:=by
 refine HCon.of' mix Tryz.func60 rfl Tryz.ntmps60 ZdM ZdN zB (by simp [AV.gl,AV.gl.glL,int]) Zcw ?_
 unfold Zca
 obtain ⟨F,hF⟩:∃ F,F=f.toNat:=⟨_,rfl⟩
 have hF2:F<256:=by rw [hF];exact f.toNat_lt
 obtain ⟨b4,b8,b16,b2⟩:=ZCY hF2
 rw [←hF]
 unfold ZhW
 have h1:=Zxe (b:=b) (f:=F) hi
 have h2:=Zxf (b:=b) (f:=F) (p:=tS1 b F i) h1
 have h3:=Zxg (b:=b) (f:=F) (p:=(tS2 b F (tS1 b F i)).2) h2
 obtain ⟨p1,hp1⟩:∃ p,p=tS1 b F i:=⟨_,rfl⟩
 rw [←hp1] at h1 h2 h3 ⊢
 obtain ⟨p2,hp2⟩:∃ p,p=tS2 b F p1:=⟨_,rfl⟩
 rw [←hp2] at h2 h3 ⊢
 obtain ⟨p3,hp3⟩:∃ p,p=tS3 b F p2.2:=⟨_,rfl⟩
 rw [←hp3] at h3 ⊢
 obtain ⟨p4,hp4⟩:∃ p,p=tS4 b F p3:=⟨_,rfl⟩
 rw [←hp4]
 iterate 2 (first|refine xS ?_|exact xT)
 refine SWp.to (F:=mk 46 6 [(0,.op 1000 0 0),(1,.sc (.int .u8 (F:Int))),(4,str []),(5,int (p1.2:Int))] [(1000,0,.row false (rdR nl b p1.1))]) ?_ ?_
 ·by_cases c4:F / 4 % 2=0
  ·rw [decide_eq_true c4] at b4
   rw [tS1,if_pos c4] at hp1
   subst hp1
   repeat (first|refine xR @b4 ?_|exact xU @b4)
   refine SWp.skip (Zal rfl ?_ ?_ ?_)
   ·show 1≤6
    omega
   iterate 2 (case _=>(first|exact vU @rdR.eq_1|refine vR @rdR.eq_1 ?_))
  ·rw [decide_eq_false c4] at b4
   rw [tS1,if_neg c4] at hp1
   by_cases c5:b.length<i+2
   ·rw [if_pos c5] at hp1
    subst hp1
    repeat (first|refine xR @b4 ?_|exact xU @b4)
    refine Zab [(1000,0)] 2000 (ZrS nl b hl i hi c5) zB zB ?_ ?_ ?_
    iterate 2 (case _=>(first|exact vU @rdR.eq_1|refine vR @rdR.eq_1 ?_))
    repeat (first|refine xR @rdR.eq_1 ?_|exact xU @rdR.eq_1)
    refine Zal rfl ?_ ?_ ?_
    ·show 1+5≤6
     omega
    iterate 2 (case _=>(first|exact vU @rdR.eq_1|refine vR @rdR.eq_1 ?_))
   rw [if_neg c5] at hp1
   by_cases c6:b.length<i+2+two b i
   ·rw [if_pos c6] at hp1
    subst hp1
    repeat (first|refine xR @b4 ?_|exact xU @b4)
    refine Zab [(1000,0)] 2000 (Zm9 nl b hl i zO c6) zB zB ?_ ?_ ?_
    iterate 2 (case _=>(first|exact vU @rdR.eq_1|refine vR @rdR.eq_1 ?_))
    repeat (first|refine xR @rdR.eq_1 ?_|exact xU @rdR.eq_1)
    refine Zal rfl ?_ ?_ ?_
    ·show 1+5≤6
     omega
    iterate 2 (case _=>(first|exact vU @rdR.eq_1|refine vR @rdR.eq_1 ?_))
   ·rw [if_neg c6] at hp1
    subst hp1
    repeat (first|refine xR @b4 ?_|exact xU @b4)
    refine Zab [(1000,0)] 2000 (ZuG nl b hl i zO zO) zB zB ?_ ?_ ?_
    iterate 2 (case _=>(first|exact vU @rdR.eq_1|refine vR @rdR.eq_1 ?_))
    repeat (first|refine xR @rdR.eq_1 ?_|exact xU @rdR.eq_1)
    refine Zal rfl ?_ ?_ ?_
    ·show 1+5≤6
     omega
    iterate 2 (case _=>(first|exact vU @rdR.eq_1|refine vR @rdR.eq_1 ?_))
 obtain ⟨i1,e1⟩:=p1
 simp only at h1 hp2 ⊢
 refine SWp.to (F:=mk 46 11 [(0,.op 1000 0 0),(1,.sc (.int .u8 (F:Int))),(4,str p2.1),(5,int (p2.2.2:Int))] [(1000,0,.row false (rdR nl b p2.2.1))]) ?_ ?_
 ·by_cases ce:e1=0
  ·have de:decide ((e1:Int)=0)=true:=decide_eq_true zO
   subst ce
   rw [tS2,if_pos rfl] at hp2
   simp only at hp2
   by_cases c4:F / 8 % 2=0
   ·rw [decide_eq_true c4] at b8
    rw [if_pos c4] at hp2
    subst hp2
    repeat (first|refine xR @b8 ?_|exact xU @b8)
    refine SWp.skip (Zal rfl ?_ ?_ ?_)
    ·show 6≤11
     omega
    iterate 2 (case _=>(first|exact vU @rdR.eq_1|refine vR @rdR.eq_1 ?_))
   rw [decide_eq_false c4] at b8
   rw [if_neg c4] at hp2
   by_cases c5:Lib.indexByte (b.drop i1) 0<0
   ·rw [if_pos c5] at hp2
    subst hp2
    repeat (first|refine xR @b8 ?_|exact xU @b8)
    refine Zab [(1000,0)] 2000 (ZuF nl b hl i1 h1 c5) zB zB ?_ ?_ ?_
    iterate 2 (case _=>(first|exact vU @rdR.eq_1|refine vR @rdR.eq_1 ?_))
    repeat (first|refine xR @rdR.eq_1 ?_|exact xU @rdR.eq_1)
    refine Zal rfl ?_ ?_ ?_
    ·show 6+5≤11
     omega
    iterate 2 (case _=>(first|exact vU @rdR.eq_1|refine vR @rdR.eq_1 ?_))
   rw [if_neg c5] at hp2
   obtain ⟨k1,k2⟩:=ZhD c5
   rw [List.length_drop] at k2
   obtain ⟨k,hk⟩:∃ k,k=(Lib.indexByte (b.drop i1) 0).toNat:=⟨_,rfl⟩
   rw [←hk] at hp2 k1 k2
   by_cases c6:200<k
   ·rw [if_pos c6] at hp2
    subst hp2
    repeat (first|refine xR @b8 ?_|exact xU @b8)
    refine Zab [(1000,0)] 2000 (Zqa nl b hl i1 k k1.symm zO c6) zB zB ?_ ?_ ?_
    iterate 2 (case _=>(first|exact vU @rdR.eq_1|refine vR @rdR.eq_1 ?_))
    repeat (first|refine xR @rdR.eq_1 ?_|exact xU @rdR.eq_1)
    refine Zal rfl ?_ ?_ ?_
    ·show 6+5≤11
     omega
    iterate 2 (case _=>(first|exact vU @rdR.eq_1|refine vR @rdR.eq_1 ?_))
   ·rw [if_neg c6] at hp2
    have pn:=Zp5 nl b hl i1 k k1.symm zO zO _ rfl
    obtain ⟨nm,hnm⟩:∃ nm,nm=(b.drop i1).take k:=⟨_,rfl⟩
    rw [←hnm] at pn hp2
    subst hp2
    repeat (first|refine xR @b8 ?_|exact xU @b8)
    refine Zab [(1000,0)] 2000 pn zB zB ?_ ?_ ?_
    iterate 2 (case _=>(first|exact vU @rdR.eq_1|refine vR @rdR.eq_1 ?_))
    repeat (first|refine xR @rdR.eq_1 ?_|exact xU @rdR.eq_1)
    refine Zal rfl ?_ ?_ ?_
    ·show 6+5≤11
     omega
    iterate 2 (case _=>(first|exact vU @rdR.eq_1|refine vR @rdR.eq_1 ?_))
  ·have de:decide ((e1:Int)=0)=false:=decide_eq_false zO
   rw [tS2,if_neg ce] at hp2
   subst hp2
   repeat (first|refine xR @de ?_|exact xU @de)
   refine SWp.skip (Zal rfl ?_ ?_ ?_)
   ·show 6≤11
    omega
   iterate 2 (case _=>(first|exact vU @rdR.eq_1|refine vR @rdR.eq_1 ?_))
 obtain ⟨nm,i2,e2⟩:=p2
 simp only at h2 hp3 ⊢
 refine SWp.to (F:=mk 46 12 [(0,.op 1000 0 0),(1,.sc (.int .u8 (F:Int))),(4,str nm),(5,int (p3.2:Int))] [(1000,0,.row false (rdR nl b p3.1))]) ?_ ?_
 ·by_cases ce:e2=0
  ·have de:decide ((e2:Int)=0)=true:=decide_eq_true zO
   subst ce
   rw [tS3,if_pos rfl] at hp3
   simp only at hp3
   by_cases c4:F / 16 % 2=0
   ·rw [decide_eq_true c4] at b16
    rw [if_pos c4] at hp3
    subst hp3
    repeat (first|refine xR @b16 ?_|exact xU @b16)
    refine SWp.skip (Zal rfl ?_ ?_ ?_)
    ·show 11≤12
     omega
    iterate 2 (case _=>(first|exact vU @rdR.eq_1|refine vR @rdR.eq_1 ?_))
   rw [decide_eq_false c4] at b16
   rw [if_neg c4] at hp3
   by_cases c5:Lib.indexByte (b.drop i2) 0<0
   ·rw [if_pos c5] at hp3
    subst hp3
    repeat (first|refine xR @b16 ?_|exact xU @b16)
    refine Zab [(1000,0)] 2000 (ZnP nl b hl i2 h2 c5) zB zB ?_ ?_ ?_
    iterate 2 (case _=>(first|exact vU @rdR.eq_1|refine vR @rdR.eq_1 ?_))
    repeat (first|refine xR @rdR.eq_1 ?_|exact xU @rdR.eq_1)
    refine Zal rfl ?_ ?_ ?_
    ·show 11+1≤12
     omega
    iterate 2 (case _=>(first|exact vU @rdR.eq_1|refine vR @rdR.eq_1 ?_))
   ·rw [if_neg c5] at hp3
    obtain ⟨k1,k2⟩:=ZhD c5
    rw [List.length_drop] at k2
    obtain ⟨k,hk⟩:∃ k,k=(Lib.indexByte (b.drop i2) 0).toNat:=⟨_,rfl⟩
    rw [←hk] at hp3 k1 k2
    subst hp3
    have pn:=ZmN nl b hl i2 k k1.symm zO
    repeat (first|refine xR @b16 ?_|exact xU @b16)
    refine Zab [(1000,0)] 2000 pn zB zB ?_ ?_ ?_
    iterate 2 (case _=>(first|exact vU @rdR.eq_1|refine vR @rdR.eq_1 ?_))
    repeat (first|refine xR @rdR.eq_1 ?_|exact xU @rdR.eq_1)
    refine Zal rfl ?_ ?_ ?_
    ·show 11+1≤12
     omega
    iterate 2 (case _=>(first|exact vU @rdR.eq_1|refine vR @rdR.eq_1 ?_))
  ·have de:decide ((e2:Int)=0)=false:=decide_eq_false zO
   rw [tS3,if_neg ce] at hp3
   subst hp3
   repeat (first|refine xR @de ?_|exact xU @de)
   refine SWp.skip (Zal rfl ?_ ?_ ?_)
   ·show 11≤12
    omega
   iterate 2 (case _=>(first|exact vU @rdR.eq_1|refine vR @rdR.eq_1 ?_))
 obtain ⟨i3,e3⟩:=p3
 simp only at h3 hp4 ⊢
 refine SWp.to (F:=mk 46 20 [(0,.op 1000 0 0),(1,.sc (.int .u8 (F:Int))),(4,str nm),(5,int (p4.2:Int))] [(1000,0,.row false (rdR nl b p4.1))]) ?_ ?_
 ·by_cases ce:e3=0
  ·have de:decide ((e3:Int)=0)=true:=decide_eq_true zO
   subst ce
   rw [tS4,if_pos rfl] at hp4
   simp only at hp4
   by_cases c4:F / 2 % 2=0
   ·rw [decide_eq_true c4] at b2
    rw [if_pos c4] at hp4
    subst hp4
    repeat (first|refine xR @b2 ?_|exact xU @b2)
    refine SWp.skip (Zal rfl ?_ ?_ ?_)
    ·show 12≤20
     omega
    iterate 2 (case _=>(first|exact vU @rdR.eq_1|refine vR @rdR.eq_1 ?_))
   rw [decide_eq_false c4] at b2
   rw [if_neg c4] at hp4
   by_cases c5:b.length<i3+2
   ·rw [if_pos c5] at hp4
    subst hp4
    repeat (first|refine xR @b2 ?_|exact xU @b2)
    refine Zab [(1000,0)] 2000 (ZoR nl b hl i3 h3 c5) zB zB ?_ ?_ ?_
    iterate 2 (case _=>(first|exact vU @rdR.eq_1|refine vR @rdR.eq_1 ?_))
    repeat (first|refine xR @rdR.eq_1 ?_|exact xU @rdR.eq_1)
    refine Zal rfl ?_ ?_ ?_
    ·show 12+5≤20
     omega
    iterate 2 (case _=>(first|exact vU @rdR.eq_1|refine vR @rdR.eq_1 ?_))
   ·rw [if_neg c5] at hp4
    have pn:=Zqb nl b hl i3 zO ((p4.2:Nat):Int) (by rw [hp4];simp only;split <;> rfl)
    obtain ⟨i4,e4⟩:=p4
    simp only [Prod.mk.injEq] at hp4 pn ⊢
    obtain ⟨rfl,-⟩:=hp4
    repeat (first|refine xR @b2 ?_|exact xU @b2)
    refine Zab [(1000,0)] 2000 pn zB zB ?_ ?_ ?_
    iterate 2 (case _=>(first|exact vU @rdR.eq_1|refine vR @rdR.eq_1 ?_))
    repeat (first|refine xR @rdR.eq_1 ?_|exact xU @rdR.eq_1)
    refine Zal rfl ?_ ?_ ?_
    ·show 12+5≤20
     omega
    iterate 2 (case _=>(first|exact vU @rdR.eq_1|refine vR @rdR.eq_1 ?_))
  ·have de:decide ((e3:Int)=0)=false:=decide_eq_false zO
   rw [tS4,if_neg ce] at hp4
   subst hp4
   repeat (first|refine xR @de ?_|exact xU @de)
   refine SWp.skip (Zal rfl ?_ ?_ ?_)
   ·show 12≤20
    omega
   iterate 2 (case _=>(first|exact vU @rdR.eq_1|refine vR @rdR.eq_1 ?_))
 obtain ⟨i4,e4⟩:=p4
 simp only
 repeat (first|refine xR @rdR.eq_1 ?_|exact xU @rdR.eq_1)
def zr (b:List UInt8) (i:Nat):Int:=if Lib.indexByte (b.drop i) 0<0 then -1 else (i:Int)+Lib.indexByte (b.drop i) 0
theorem ZCZ {b:List UInt8} {i:Nat} (h:b.length≤i):zr b i=-1:=by
 rw [zr,List.drop_of_length_le h];rfl
theorem ZC0 {b:List UInt8} {i:Nat} (h:i<b.length) (h0:b.getD i 0=0):zr b i=i:=by
 have e:b.drop i=b.getD i 0::b.drop (i+1):=by
  rw [List.drop_eq_getElem_cons h];simp [List.getD,List.getElem?_eq_getElem h]
 rw [zr,e,h0]
 simp [Lib.indexByte]
theorem ZBs {b:List UInt8} {i:Nat} (h:i<b.length) (h0:b.getD i 0≠0):zr b i=zr b (i+1):=by
 have e:b.drop i=b.getD i 0::b.drop (i+1):=by
  rw [List.drop_eq_getElem_cons h];simp [List.getD,List.getElem?_eq_getElem h]
 have hg:=Lib.indexByte_ge (b.drop (i+1)) 0
 obtain ⟨z,hz⟩:∃ z,z=Lib.indexByte (b.drop (i+1)) 0:=⟨_,rfl⟩
 rw [←hz] at hg
 have hb:(b.getD i 0==0)=false:=by simpa using h0
 by_cases c:z=-1
 ·have hi:Lib.indexByte (b.drop i) 0=-1:=by
   rw [e]
   unfold Lib.indexByte
   rw [hb,←hz,c];rfl
  rw [zr,zr,hi,←hz,c];rfl
 ·have hi:Lib.indexByte (b.drop i) 0=z+1:=by
   rw [e]
   unfold Lib.indexByte
   rw [hb,←hz]
   have hc:(z==-1)=false:=by simpa using c
   rw [hc];rfl
  rw [zr,zr,hi,←hz,if_neg zO,if_neg zO]
  omega
theorem ZnR [Tabs Tryz.prog] (nl:Bool) (b:List UInt8) (hl:b.length≤1000000) (i:Nat) (hi:i≤b.length) :
  Con Tryz.prog Zdg [.sl nl none (b.map u8),int (i:Int)] (int (zr b i)):=by
 refine Con.of' mix Tryz.func64 rfl Tryz.ntmps64 ZjA ZjB zB (by simp only [AV.free,AV.free.freeL,Zag,int,Bool.and_self]) rfl ?_
 unfold ZfY
 obtain ⟨Z,hZ⟩:∃ Z,Z=zr b i:=⟨_,rfl⟩
 rw [←hZ]
 repeat (first|refine xS ?_|exact xT)
 refine SWp.loop (α:=Nat) (fun j=>mk 19 0 [(0,.sl nl none (b.map u8)),(5,int (j:Int))] [])
  (fun j=>j≤b.length∧Z=zr b j) (fun j=>b.length-j) i ⟨hi,hZ⟩ (Zal rfl ?_ ?_ ?_) ?_
 ·exact Nat.le_refl _
 iterate 2 (case _=>(first|exact vT|refine vS ?_))
 rintro j ⟨hj,hz⟩ -
 by_cases c:j<b.length
 ·have dj:decide ((j:Int)<(b.length:Int))=true:=decide_eq_true zO
  have hx:=(b.getD j 0).toNat_lt
  by_cases c0:b.getD j 0=0
  ·have d0:decide (((b.getD j 0).toNat:Int)=0)=true:=decide_eq_true (by rw [c0];rfl)
   rw [ZC0 c c0] at hz
   subst hz
   repeat (first|refine xR (ja3 @List.length_map.{0,0} @dj @d0) ?_|exact xU (ja3 @List.length_map.{0,0} @dj @d0))
  ·have d0:decide (((b.getD j 0).toNat:Int)=0)=false:=decide_eq_false (fun h=>c0 (UInt8.toNat_inj.1 (by show _=0;omega)))
   rw [ZBs c c0] at hz
   repeat (first|refine xR (ja3 @List.length_map.{0,0} @dj @d0) ?_|exact xU (ja3 @List.length_map.{0,0} @dj @d0))
   refine At.of (j+1) ⟨by omega,hz⟩ zO rfl rfl (Nat.le_refl _) ?_ ?_
   iterate 2 (case _=>(first|exact vT|refine vS ?_))
 ·have dj:decide ((j:Int)<(b.length:Int))=false:=decide_eq_false zO
  rw [ZCZ zO] at hz
  subst hz
  repeat (first|refine xR (ja2 @List.length_map.{0,0} @dj) ?_|exact xU (ja2 @List.length_map.{0,0} @dj))
theorem ZC1 {f:Nat} (hf:f<256):decide (((f&&&224:Nat):Int)=0)=decide (f<32):=by
 have h:∀ f,f<256→decide ((f&&&224)=0)=decide (f<32):=by decide +kernel
 have e:decide (((f&&&224:Nat):Int)=0)=decide ((f&&&224)=0):=decide_eq_decide.2 zO
 rw [e]
 exact h f hf
def hdE (x0 x1 x2 x3:UInt8):Nat:=if x0.toNat≠31 then 3 else if x1.toNat≠139 then 3 else if x2.toNat≠8 then 14 else if x3.toNat<32 then 0 else 3
def hdR (x0 x1 x2 x3:UInt8) (t:Nat):AV:=if hdE x0 x1 x2 x3=0 then .tup [.sc (.int .u8 (x3.toNat:Int)),int (t:Int),int 0] else .tup [.sc (.int .u8 0),int 0,int (hdE x0 x1 x2 x3:Int)]
set_option maxHeartbeats 1000000 in
theorem Zxi [Tabs Tryz.prog] (nl:Bool) (x0 x1 x2 x3:UInt8) (V R b:List UInt8) (hV:V.length=6) (hb:b=x0::x1::x2::x3::(V++R)) (hl:b.length≤1000000) :
  HCon Tryz.prog Zb4 [.op 1000 0 0] [.row false (rdR nl b 0)] (hdR x0 x1 x2 x3 (leN (V.take 4))) [(1000,0,.row false (rdR nl b 10))] 5:=by
 refine HCon.of' mix Tryz.func59 rfl Tryz.ntmps59 ZdK ZdL zB (by simp [AV.gl,AV.gl.glL,int]) Zcw ?_
 unfold Zb9
 have p1:=Zf3 nl b hl 0 10 (by rw [hb];simp only [List.length_cons,List.length_append];omega)
 have hw:(b.drop 0).take 10=x0::x1::x2::x3::V:=by
  rw [hb]
  simp only [List.drop_zero,List.take_succ_cons]
  rw [←hV,List.take_left]
 have p2:=Zff nl (x0::x1::x2::x3::V) (by simp only [List.length_cons];omega) 4 4
 have hr:Zbr (x0::x1::x2::x3::V) 4 4 = .tup [.sc (.int .u64 (leN (V.take 4):Int)),boo true]:=by
  have e2:stB (x0::x1::x2::x3::V).length 4 4=true:=by
   simp only [List.length_cons,hV];rfl
  unfold Zbr
  rw [if_pos e2,show ((4:Int).toNat)=4 from rfl]
  rfl
 have hlt:leN (V.take 4)<4294967296:=by
  match V,hV with
  | [a,b,c,d,e,f],_ =>
   have:=a.toNat_lt;have:=b.toNat_lt;have:=c.toNat_lt;have:=d.toNat_lt
   simp [leN,beN];omega
 rw [hr] at p2
 rw [hw] at p1
 obtain ⟨t,ht⟩:∃ t,t=leN (V.take 4):=⟨_,rfl⟩
 rw [←ht] at p2 hlt ⊢
 have hwr:IntKind.i64.wrap (t:Int)=(t:Int):=Zch zO zO
 have hf:=ZC1 x3.toNat_lt
 have hx3:=x3.toNat_lt
 obtain ⟨y0,h0⟩:∃ y,y=x0.toNat:=⟨_,rfl⟩
 unfold hdR
 clear hr hb ht hw
 by_cases c0:x0.toNat=31
 ·have d0:decide ((x0.toNat:Int)=31)=true:=decide_eq_true zO
  by_cases c1:x1.toNat=139
  ·have d1:decide ((x1.toNat:Int)=139)=true:=decide_eq_true zO
   by_cases c2:x2.toNat=8
   ·have d2:decide ((x2.toNat:Int)=8)=true:=decide_eq_true zO
    by_cases c3:x3.toNat<32
    ·rw [decide_eq_true c3] at hf
     have hE:hdE x0 x1 x2 x3=0:=by simp [hdE,c0,c1,c2,c3]
     rw [if_pos hE]
     repeat (first|refine xS ?_|exact xT)
     refine Zab [(1000,0)] 2000 p1 zB zB ?_ ?_ ?_
     iterate 2 (case _=>(first|exact vU @rdR.eq_1|refine vR @rdR.eq_1 ?_))
     repeat (first|refine xR (ja7 @rdR.eq_1 @hV @d0 @d1 @d2 @hf @List.length_map.{0,0}) ?_|exact xU (ja7 @rdR.eq_1 @hV @d0 @d1 @d2 @hf @List.length_map.{0,0}))
     refine Zaq _ (.inl ⟨by simp only [AV.free,AV.free.freeL,Zag,Bool.and_self],p2⟩) ?_
     repeat (first|refine xR (ja4 @rdR.eq_1 @hV @hwr @List.length_map.{0,0}) ?_|exact xU (ja4 @rdR.eq_1 @hV @hwr @List.length_map.{0,0}))
    ·rw [decide_eq_false c3] at hf
     have hE:hdE x0 x1 x2 x3=3:=by simp [hdE,c0,c1,c2,c3]
     rw [hE,if_neg (by decide)]
     repeat (first|refine xS ?_|exact xT)
     refine Zab [(1000,0)] 2000 p1 zB zB ?_ ?_ ?_
     iterate 2 (case _=>(first|exact vU @rdR.eq_1|refine vR @rdR.eq_1 ?_))
     repeat (first|refine xR (ja7 @rdR.eq_1 @hV @d0 @d1 @d2 @hf @List.length_map.{0,0}) ?_|exact xU (ja7 @rdR.eq_1 @hV @d0 @d1 @d2 @hf @List.length_map.{0,0}))
   ·have d2:decide ((x2.toNat:Int)=8)=false:=decide_eq_false zO
    have hE:hdE x0 x1 x2 x3=14:=by simp [hdE,c0,c1,c2]
    rw [hE,if_neg (by decide)]
    repeat (first|refine xS ?_|exact xT)
    refine Zab [(1000,0)] 2000 p1 zB zB ?_ ?_ ?_
    iterate 2 (case _=>(first|exact vU @rdR.eq_1|refine vR @rdR.eq_1 ?_))
    repeat (first|refine xR (ja6 @rdR.eq_1 @hV @d0 @d1 @d2 @List.length_map.{0,0}) ?_|exact xU (ja6 @rdR.eq_1 @hV @d0 @d1 @d2 @List.length_map.{0,0}))
  ·have d1:decide ((x1.toNat:Int)=139)=false:=decide_eq_false zO
   have hE:hdE x0 x1 x2 x3=3:=by simp [hdE,c0,c1]
   rw [hE,if_neg (by decide)]
   repeat (first|refine xS ?_|exact xT)
   refine Zab [(1000,0)] 2000 p1 zB zB ?_ ?_ ?_
   iterate 2 (case _=>(first|exact vU @rdR.eq_1|refine vR @rdR.eq_1 ?_))
   repeat (first|refine xR (ja5 @rdR.eq_1 @hV @d0 @d1 @List.length_map.{0,0}) ?_|exact xU (ja5 @rdR.eq_1 @hV @d0 @d1 @List.length_map.{0,0}))
 ·have d0:decide ((x0.toNat:Int)=31)=false:=decide_eq_false zO
  have hE:hdE x0 x1 x2 x3=3:=by simp [hdE,c0]
  rw [hE,if_neg (by decide)]
  repeat (first|refine xS ?_|exact xT)
  refine Zab [(1000,0)] 2000 p1 zB zB ?_ ?_ ?_
  iterate 2 (case _=>(first|exact vU @rdR.eq_1|refine vR @rdR.eq_1 ?_))
  repeat (first|refine xR (ja4 @rdR.eq_1 @hV @d0 @List.length_map.{0,0}) ?_|exact xU (ja4 @rdR.eq_1 @hV @d0 @List.length_map.{0,0}))
theorem ZuH [Tabs Tryz.prog] (nl:Bool) (b:List UInt8) (hl:b.length≤1000000) (i:Nat) (R:List UInt8) (hR:b.drop i=R) (h4:R.length≤4096) (hi:i≤b.length) (room:Int) (e:Nat)
  (hI:Con Tryz.prog Za5 [.sl nl none (R.map u8),int room] (.tup [.sc (.slice none 0 0),int 0,int (e:Int)])) (he:e≠0) :
  HCon Tryz.prog Zb3 [.op 1000 0 0,int room] [.row false (rdR nl b i)] (.tup [.sc (.slice none 0 0),int (e:Int)]) [(1000,0,.row false (rdR nl b i))] 5:=by
 refine HCon.of' mix Tryz.func61 rfl Tryz.ntmps61 Zgk Zgl zB (by simp [AV.gl,AV.gl.glL,int]) Zcw ?_
 unfold ZdO
 have hRl:R.length=b.length-i:=by rw [←hR,List.length_drop]
 have htl:b.take b.length=b:=List.take_length
 have htR:R.take R.length=R:=List.take_length
 have hm:(if (R.length:Int)<4096 then (R.length:Int) else 4096)=(R.length:Int):=by split <;> omega
 have dn:decide ((R.length:Int)<(R.length:Int))=false:=decide_eq_false zO
 by_cases c:e=2
 ·subst c
  repeat (first|refine xR (ja4 @rdR.eq_1 @List.length_map.{0,0} @htl hR) ?_|exact xU (ja4 @rdR.eq_1 @List.length_map.{0,0} @htl hR))
  refine SWp.unroll ?_
  repeat (first|refine xR (ja4 @rdR.eq_1 @List.length_map.{0,0} @htR @hm) ?_|exact xU (ja4 @rdR.eq_1 @List.length_map.{0,0} @htR @hm))
  refine Zaq _ (.inl ⟨by simp only [AV.free,AV.free.freeL,Zag,int,Bool.and_self],hI⟩) ?_
  repeat (first|refine xR (ja3 @rdR.eq_1 @List.length_map.{0,0} @dn) ?_|exact xU (ja3 @rdR.eq_1 @List.length_map.{0,0} @dn))
 ·have d2:decide ((e:Int)=2)=false:=decide_eq_false zO
  repeat (first|refine xR (ja4 @rdR.eq_1 @List.length_map.{0,0} @htl hR) ?_|exact xU (ja4 @rdR.eq_1 @List.length_map.{0,0} @htl hR))
  refine SWp.unroll ?_
  repeat (first|refine xR (ja4 @rdR.eq_1 @List.length_map.{0,0} @htR @hm) ?_|exact xU (ja4 @rdR.eq_1 @List.length_map.{0,0} @htR @hm))
  refine Zaq _ (.inl ⟨by simp only [AV.free,AV.free.freeL,Zag,int,Bool.and_self],hI⟩) ?_
  repeat (first|refine xR (ja3 @rdR.eq_1 @List.length_map.{0,0} @d2) ?_|exact xU (ja3 @rdR.eq_1 @List.length_map.{0,0} @d2))
theorem ZrT [Tabs Tryz.prog] (nl:Bool) (b:List UInt8) (hl:b.length≤1000000) (i:Nat) (hi:i≤b.length) (h:b.length<i+8) (nd:Bool) (D:List UInt8) :
  HCon Tryz.prog ZdH [.op 1000 0 0,.sl nd none (D.map u8)] [.row false (rdR nl b i)] (int 2) [(1000,0,.row false (rdR nl b i))] 10:=by
 refine HCon.of' mix Tryz.func62 rfl Tryz.ntmps62 Zgm Zgn zB (by simp only [AV.gl,AV.gl.glL,and_true];exact ⟨by omega,Zan _ _ Zag⟩) Zcw ?_
 unfold ZdP
 repeat (first|refine xS ?_|exact xT)
 refine Zab [(1000,0)] 2000 (ZhC nl b hl i 8 hi h) zB zB ?_ ?_ ?_
 iterate 2 (case _=>(first|exact vU @rdR.eq_1|refine vR @rdR.eq_1 ?_))
 repeat (first|refine xR @rdR.eq_1 ?_|exact xU @rdR.eq_1)
theorem ZBt {F m j:Nat} {b o:List UInt8} (h:(Zoz m F F []).run (Zae b) 0 = .ok o j):ZoA F b m=(o,(j+7) / 8,0):=by rw [ZoA,h];rfl
theorem ZBu {F m e:Nat} {b:List UInt8} (h:(Zoz m F F []).run (Zae b) 0 = .no e):ZoA F b m=([],0,e):=by rw [ZoA,h];rfl
theorem ZBv {b:List UInt8} {m F:Nat}:∀ {f:Nat} {out o:List UInt8} {i j:Nat},out.length≤m→i≤8*b.length→(Zoz m F f out).run (Zae b) i = .ok o j→o.length≤m∧i<j∧j≤8*b.length:=by
 intro f
 induction f with
 | zero=>intro out o i j _ _ h;simp [Zoz,BT.run] at h
 | succ f ih =>
  intro out o i j ho hi h
  rw [Zoz,Zak] at h
  cases h1:(ZoX m F out).run (Zae b) i with
  | no e=>rw [h1] at h;cases h
  | ok p k =>
   have hb:=ZrI hi ho h1
   rw [h1] at h
   simp only [BR.bnd] at h
   split at h
   ·simp only [BT.run,BR.ok.injEq] at h
    obtain ⟨rfl,rfl⟩:=h
    exact ⟨hb.2.2,hb.1,hb.2.1⟩
   ·have:=ih hb.2.2 hb.2.1 h
    exact ⟨this.1,by omega,this.2.2⟩
theorem ZiD {b:List UInt8} {m F:Nat}:(∃ e,ZoA F b m=([],0,e)∧e≠0∧e≤10)∨∃ o j,(Zoz m F F []).run (Zae b) 0 = .ok o j∧ZoA F b m=(o,(j+7) / 8,0)∧o.length≤m∧0<j∧j≤8*b.length:=by
 cases h:(Zoz m F F []).run (Zae b) 0 with
 | no e=>exact .inl ⟨e,ZBu h,Zeo (ZoE _ _) h⟩
 | ok o j =>
  have:=ZBv (Nat.zero_le _) (Nat.zero_le _) h
  exact .inr ⟨o,j,rfl,ZBt h,this.1,this.2.1,this.2.2⟩
end Go.Proofs.YtfplkgciebjehabGreatDoor.Aw
