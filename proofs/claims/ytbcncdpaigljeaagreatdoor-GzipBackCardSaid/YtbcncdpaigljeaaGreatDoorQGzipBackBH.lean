/- Parts of the proof of GzipBack. -/
import Derived.Test.YtbcncdpaigljeaaGreatDoorQGzipBackBG
import Derived.Test.YtbcncdpaigljeaaGreatDoorQGzipBackBF
namespace Go.Proofs.YtbcncdpaigljeaaGreatDoor.Aw
open Go
set_option linter.unusedSimpArgs false
set_option linter.unusedVariables false
def KM (n:Nat):Nat:=10*n*n
theorem ZEz {n:Nat} (h:1≤n):1≤KM n:=by
 have:=Nat.mul_le_mul h h
 unfold KM;rw [Nat.mul_assoc];omega
theorem ZEA {p q:Nat} (hp:1≤p) (hq:1≤q):3+(p+q)+KM p+KM q≤KM (p+q):=by
 unfold KM
 have e:10*(p+q)*(p+q)=10*p*p+10*q*q+20*(p*q):=by
  simp only [Nat.mul_add,Nat.add_mul,Nat.mul_assoc,Nat.mul_comm q p]
  omega
 have h1:p+q≤p*q+1:=by
  obtain ⟨p',rfl⟩:∃ p',p=p'+1:=⟨p-1,by omega⟩
  obtain ⟨q',rfl⟩:∃ q',q=q'+1:=⟨q-1,by omega⟩
  simp only [Nat.add_mul,Nat.mul_add,Nat.mul_one,Nat.one_mul]
  omega
 have h2:=Nat.mul_le_mul hp hq
 omega
set_option maxHeartbeats 4000000 in
set_option maxRecDepth 100000 in
theorem ZhF [Tabs Tryz.prog]:∀ (n:Nat) (Pf X Y Tl:List Bt) (N a m b:Nat),X.length+Y.length=n→N=(Pf++(X++(Y++Tl))).length→N≤100000→a=Pf.length→m=Pf.length+X.length→b=m+Y.length→1≤X.length→1≤Y.length→Srt X→Srt Y →
  HCon Tryz.prog Zar [.own 1000 0 (some 2) 0 N,int a,int m,int b,Zdi] [.row false (bC (Pf++(X++(Y++Tl))))] (.tup []) [(1000,0,.row false (bC (Pf++(Zas (X++Y)++Tl))))] (KM n):=by
 intro n
 induction n using Nat.strongRecOn with
 | _ n ih =>
 intro Pf X Y Tl N a m b hn hN hl ha hm hb hX1 hY1 hX hY
 by_cases c1:X.length=1
 ·obtain ⟨x,rfl⟩:=List.length_eq_one_iff.1 c1
  exact Zj6 Pf Y Tl x N a m b hN hl ha hm hb hY (KM n) (ZEz (by omega))
 by_cases c2:Y.length=1
 ·obtain ⟨y,rfl⟩:=List.length_eq_one_iff.1 c2
  exact Zjk Pf X Tl y N a m b hN hl ha hm hb (by omega) hX (KM n) (ZEz (by omega))
 refine HCon.of' mix Tryz.func161 rfl Tryz.ntmps161 Za8 Za9 (by simp) (by simp only [AV.gl.glL,AV.gl,int,Zdi,and_true];omega) ZsV ?_
 unfold ZaH
 have hlen:N=Pf.length+(X.length+(Y.length+Tl.length)):=by rw [hN];simp
 have d0:decide ((m:Int)-(a:Int)=1)=false:=decide_eq_false (by omega)
 have d00:decide ((b:Int)-(m:Int)=1)=false:=decide_eq_false (by omega)
 obtain ⟨mid,hmid⟩:∃ mid,mid=(a+b) / 2:=⟨_,rfl⟩
 obtain ⟨nn,hnn⟩:∃ nn,nn=mid+m:=⟨_,rfl⟩
 obtain ⟨pp,hpp⟩:∃ pp,pp=nn-1:=⟨_,rfl⟩
 have emid:IntKind.i64.wrap ((IntKind.u64.wrap ((a:Int)+(b:Int))).fdiv (2^1))=(mid:Int):=by
  rw [Zbi (by omega) (by omega),show ((2:Int)^1)=2 from rfl,Int.fdiv_eq_ediv_of_nonneg _ (by omega),ZbI (by omega) (by omega)]
  omega
 have enn:(mid:Int)+(m:Int)=(nn:Int):=by omega
 have epp:(nn:Int)-1=(pp:Int):=by omega
 obtain ⟨W,hW⟩:∃ W,W=Pf++(X++(Y++Tl)):=⟨_,rfl⟩
 rw [←hW] at hN
 rw [←hW]
 by_cases hmm:mid<m
 ·have dm:decide ((m:Int)>(mid:Int))=true:=decide_eq_true (by omega)
  obtain ⟨s0,hs0⟩:∃ s0,s0=nn-b:=⟨_,rfl⟩
  obtain ⟨r0,hr0⟩:∃ r0,r0=mid:=⟨_,rfl⟩
  have es0:(nn:Int)-(b:Int)=(s0:Int):=by omega
  have b1:a≤s0:=by omega
  have b2:s0≤r0:=by omega
  have b3:r0≤m:=by omega
  have b4:nn-s0≤b:=by omega
  have b5:m≤nn-r0:=by omega
  have i1:∀ x∈X.take (s0-a),∀ y∈Y.drop (nn-s0-m),x.1≤y.1:=fun x _ y hy=>by
   rw [List.drop_of_length_le (by omega)] at hy;simp at hy
  have i2:∀ y∈Y.take (nn-r0-m),∀ x∈X.drop (r0-a),y.1<x.1:=fun y hy=>by
   rw [show nn-r0-m=0 from by omega] at hy;simp at hy
  repeat (first | refine xR (ja7 @d0 @d00 @emid @enn @dm @es0 @epp) ?_ | exact xU (ja7 @d0 @d00 @emid @enn @dm @es0 @epp))
  refine SWp.loop (α:=Nat × Nat) (fun p=>mk 220 1 [(0,.own 1000 0 (some 2) 0 N),(1,int a),(2,int m),(3,int b),(4,Zdi),(18,int mid),(19,int nn),(20,int p.1),(21,int p.2),(22,int pp)] [(1000,0,.row false (bC W))])
   (fun p=>a≤p.1∧p.1≤p.2∧p.2≤m∧nn-p.1≤b∧m≤nn-p.2∧(∀ x∈X.take (p.1-a),∀ y∈Y.drop (nn-p.1-m),x.1≤y.1)∧(∀ y∈Y.take (nn-p.2-m),∀ x∈X.drop (p.2-a),y.1<x.1)) (fun p=>p.2-p.1) (s0,r0) ⟨b1,b2,b3,b4,b5,i1,i2⟩ (Zau rfl ?_ ?_ ?_) ?_
  ·exact Nat.le_refl _
  iterate 2 (case _=>(first | exact vU (ja2 @hs0 @hr0) | refine vR (ja2 @hs0 @hr0) ?_))
  clear i1 i2 b1 b2 b3 b4 b5
  rintro ⟨s,r⟩ ⟨b1,b2,b3,b4,b5,i1,i2⟩ -
  simp only at b1 b2 b3 b4 b5 i1 i2
  repeat (first | refine xS ?_ | exact xT)
  refine SWp.cond rfl (fun h=>?_) (fun h=>?_)
  ·simp only [decide_eq_true_eq] at h
   obtain ⟨q,hq⟩:∃ q,q=(s+r) / 2:=⟨_,rfl⟩
   obtain ⟨e,he⟩:∃ e,e=pp-q:=⟨_,rfl⟩
   have eq1:IntKind.i64.wrap ((IntKind.u64.wrap ((s:Int)+(r:Int))).fdiv (2^1))=(q:Int):=by
    rw [Zbi (by omega) (by omega),show ((2:Int)^1)=2 from rfl,Int.fdiv_eq_ediv_of_nonneg _ (by omega),ZbI (by omega) (by omega)]
    omega
   have eq2:(pp:Int)-(q:Int)=(e:Int):=by omega
   obtain ⟨u,hu⟩:∃ u,u=q-a:=⟨_,rfl⟩
   obtain ⟨v,hv⟩:∃ v,v=e-m:=⟨_,rfl⟩
   have huX:u<X.length:=by omega
   have hvY:v<Y.length:=by omega
   have hql:q<W.length:=by omega
   have hel:e<W.length:=by omega
   have e1:=Zc7 hql
   have e2:=Zc7 hel
   have g1:W.getD q (0,[])=X.getD u (0,[]):=by
    rw [hW]
    simp only [List.getD]
    rw [List.getElem?_append_right (by omega),show q-Pf.length=u from by omega,List.getElem?_append_left huX]
   have g2:W.getD e (0,[])=Y.getD v (0,[]):=by
    rw [hW]
    simp only [List.getD]
    rw [List.getElem?_append_right (by omega),List.getElem?_append_right (by omega),show e-Pf.length-X.length=v from by omega,List.getElem?_append_left hvY]
   obtain ⟨x,hx⟩:∃ x,x=X.getD u (0,[]):=⟨_,rfl⟩
   obtain ⟨y,hy⟩:∃ y,y=Y.getD v (0,[]):=⟨_,rfl⟩
   rw [g1,←hx] at e1
   rw [g2,←hy] at e2
   have e3:(bC W).length=N*2:=by rw [Za2,hN]
   have heN:e*2+2≤N*2:=by omega
   have hqN:q*2+2≤N*2:=by omega
   have x1:=ZjB hX huX
   have x2:=ZjC hX huX
   have y1:=ZjB hY hvY
   have y2:=ZjC hY hvY
   rw [←hx] at x1 x2
   rw [←hy] at y1 y2
   repeat (first | refine xR (ja5 @eq1 @eq2 @e1 @e2 @e3) ?_ | exact xU (ja5 @eq1 @eq2 @e1 @e2 @e3))
   refine Zsa Zbp rfl (by decide) ?_
   refine Zay _ (.inl ⟨by simp only [AV.free,AV.free.freeL,nA,Zab,Bool.and_self],Zdg (y.1:Int) (x.1:Int) _ _ (by simp only [AV.free,Zab]) (by simp only [AV.free,Zab])⟩) ?_
   by_cases c:y.1<x.1
   ·have dc:decide (Zl1 (y.1:Int) (x.1:Int)<0)=true:=by
     unfold Zl1;rw [if_pos (by omega)];rfl
    repeat (first | refine xR @dc ?_ | exact xU @dc)
    refine At.of (s,q) ⟨b1,by simp only;omega,by simp only;omega,b4,by simp only;omega,i1,fun y' hy' x' hx'=>?_⟩ (by simp only;omega) rfl rfl (Nat.le_refl _) ?_ ?_
    ·simp only at hy' hx'
     rw [show nn-q-m=v+1 from by omega] at hy'
     rw [show q-a=u from by omega] at hx'
     have h1:=y1 y' hy'
     have h2:=x2 x' hx'
     omega
    ·(first | exact vT | refine vS ?_)
     try omega
    ·(first | exact vT | refine vS ?_)
   ·have dc:decide (Zl1 (y.1:Int) (x.1:Int)<0)=false:=by
     unfold Zl1;rw [if_neg (by omega)];split <;> rfl
    repeat (first | refine xR @dc ?_ | exact xU @dc)
    refine At.of (q+1,r) ⟨by simp only;omega,by simp only;omega,b3,by simp only;omega,b5,fun x' hx' y' hy'=>?_,i2⟩ (by simp only;omega) rfl rfl (Nat.le_refl _) ?_ ?_
    ·simp only at hy' hx'
     rw [show nn-(q+1)-m=v from by omega] at hy'
     rw [show q+1-a=u+1 from by omega] at hx'
     have h1:=x1 x' hx'
     have h2:=y2 y' hy'
     omega
    ·(first | exact vT | refine vS ?_)
     try omega
    ·(first | exact vT | refine vS ?_)
  ·simp only [decide_eq_false_iff_not] at h
   obtain rfl:s=r:=by omega
   obtain ⟨X1,hX1'⟩:∃ X1,X1=X.take (s-a):=⟨_,rfl⟩
   obtain ⟨X2,hX2'⟩:∃ X2,X2=X.drop (s-a):=⟨_,rfl⟩
   obtain ⟨Y1,hY1'⟩:∃ Y1,Y1=Y.take (nn-s-m):=⟨_,rfl⟩
   obtain ⟨Y2,hY2'⟩:∃ Y2,Y2=Y.drop (nn-s-m):=⟨_,rfl⟩
   rw [←hX1',←hY2'] at i1
   rw [←hY1',←hX2'] at i2
   have hXX:X=X1++X2:=by rw [hX1',hX2',List.take_append_drop]
   have hYY:Y=Y1++Y2:=by rw [hY1',hY2',List.take_append_drop]
   obtain ⟨e,he⟩:∃ e,e=nn-s:=⟨_,rfl⟩
   have l1:X1.length=s-a:=by rw [hX1',List.length_take];omega
   have l2:X2.length=m-s:=by rw [hX2',List.length_drop];omega
   have l3:Y1.length=e-m:=by rw [hY1',List.length_take];omega
   have l4:Y2.length=b-e:=by rw [hY2',List.length_drop];omega
   have eens:(nn:Int)-(s:Int)=(e:Int):=by omega
   have hWl:W=Pf++(X1++(X2++(Y1++(Y2++Tl)))):=by rw [hW,hXX,hYY];simp
   have sX:=hX
   have sY:=hY
   rw [hXX] at sX
   rw [hYY] at sY
   have hcut:=ZoT sX sY i1 i2
   rw [←hXX,←hYY] at hcut
   obtain ⟨sX1,sX2,_⟩:=List.pairwise_append.1 sX
   obtain ⟨sY1,sY2,_⟩:=List.pairwise_append.1 sY
   iterate 4 (first | refine xR @eens ?_ | exact xU @eens)
   have lp:X1.length+Y1.length=mid-a:=by omega
   have lq:X2.length+Y2.length=b-mid:=by omega
   have hKK:=ZEA (p:=X1.length+Y1.length) (q:=X2.length+Y2.length) (by omega) (by omega)
   rw [show X1.length+Y1.length+(X2.length+Y2.length)=n from by omega] at hKK
   obtain ⟨g1,hg1⟩:∃ g1,g1=1+(2+(X2.length+Y1.length)):=⟨_,rfl⟩
   refine SWp.toT (F:=mk 220 g1 [(0,.own 1000 0 (some 2) 0 N),(1,int a),(2,int m),(3,int b),(4,Zdi),(18,int mid),(20,int s),(24,int e)] [(1000,0,.row false (bC (Pf++(X1++(Y1++(X2++(Y2++Tl)))))))]) ?_ ?_
   ·by_cases ca:s<m
    ·have dA1:decide ((s:Int)<(m:Int))=true:=decide_eq_true (by omega)
     by_cases cb:m<e
     ·have dA2:decide ((m:Int)<(e:Int))=true:=decide_eq_true (by omega)
      have hrot:=Zjj (Pf++X1) X2 Y1 (Y2++Tl) N s m e (by rw [hN,hWl];simp) hl (by simp;omega) (by simp;omega) (by simp;omega) (by omega) (by omega)
      simp only [List.append_assoc] at hrot
      rw [←hWl] at hrot
      repeat (first | refine xR (ja2 @dA1 @dA2) ?_ | exact xU (ja2 @dA1 @dA2))
      refine Zag [(1000,0)] 2000 hrot (by simp) (by simp) ?_ ?_ ?_
      iterate 2 (case _=>(first | exact vU (ja2 @Zam @Zdi.eq_1) | refine vR (ja2 @Zam @Zdi.eq_1) ?_))
      repeat (first | refine xR @Zam ?_ | exact xU @Zam)
      refine Zau rfl ?_ ?_ ?_
      ·show 1+(2+(X2.length+Y1.length))≤g1
       omega
      iterate 2 (case _=>(first | exact vT | refine vS ?_))
     ·have dA2:decide ((m:Int)<(e:Int))=false:=decide_eq_false (by omega)
      have hY0:Y1=[]:=List.eq_nil_of_length_eq_zero (by omega)
      repeat (first | refine xR (ja2 @dA1 @dA2) ?_ | exact xU (ja2 @dA1 @dA2))
      refine SWp.skip (Zau rfl ?_ ?_ ?_)
      ·show 1≤g1
       omega
      iterate 2 (case _=>(first | exact vU (ja2 @hWl @hY0) | refine vR (ja2 @hWl @hY0) ?_))
    ·have dA1:decide ((s:Int)<(m:Int))=false:=decide_eq_false (by omega)
     have hX0:X2=[]:=List.eq_nil_of_length_eq_zero (by omega)
     repeat (first | refine xR @dA1 ?_ | exact xU @dA1)
     refine SWp.skip (Zau rfl ?_ ?_ ?_)
     ·show 1≤g1
      omega
     iterate 2 (case _=>(first | exact vU (ja2 @hWl @hX0) | refine vR (ja2 @hWl @hX0) ?_))
   obtain ⟨g2,hg2⟩:∃ g2,g2=g1+KM (X1.length+Y1.length):=⟨_,rfl⟩
   refine SWp.to (F:=mk 220 g2 [(0,.own 1000 0 (some 2) 0 N),(1,int a),(2,int m),(3,int b),(4,Zdi),(18,int mid),(20,int s),(24,int e)] [(1000,0,.row false (bC (Pf++(Zas (X1++Y1)++(X2++(Y2++Tl))))))]) ?_ ?_
   ·by_cases ca:a<s
    ·have dB1:decide ((a:Int)<(s:Int))=true:=decide_eq_true (by omega)
     by_cases cb:s<mid
     ·have dB2:decide ((s:Int)<(mid:Int))=true:=decide_eq_true (by omega)
      have hrec:=ih (X1.length+Y1.length) (by omega) Pf X1 Y1 (X2++(Y2++Tl)) N a s mid rfl (by rw [hN,hWl];simp;omega) hl ha (by omega) (by omega) (by omega) (by omega) sX1 sY1
      repeat (first | refine xR (ja2 @dB1 @dB2) ?_ | exact xU (ja2 @dB1 @dB2))
      refine Zag [(1000,0)] 2000 hrec (by simp) (by simp) ?_ ?_ ?_
      iterate 2 (case _=>(first | exact vU (ja2 @Zam @Zdi.eq_1) | refine vR (ja2 @Zam @Zdi.eq_1) ?_))
      repeat (first | refine xR @Zam ?_ | exact xU @Zam)
      refine Zau rfl ?_ ?_ ?_
      ·show g1+KM (X1.length+Y1.length)≤g2
       omega
      iterate 2 (case _=>(first | exact vT | refine vS ?_))
     ·have dB2:decide ((s:Int)<(mid:Int))=false:=decide_eq_false (by omega)
      have hY0:Y1=[]:=List.eq_nil_of_length_eq_zero (by omega)
      have hsx:=ZeM sX1
      repeat (first | refine xR (ja2 @dB1 @dB2) ?_ | exact xU (ja2 @dB1 @dB2))
      refine SWp.skip (Zau rfl ?_ ?_ ?_)
      ·show g1≤g2
       omega
      iterate 2 (case _=>(first | exact vU (ja3 @hY0 @hsx @List.append_nil.{0}) | refine vR (ja3 @hY0 @hsx @List.append_nil.{0}) ?_))
    ·have dB1:decide ((a:Int)<(s:Int))=false:=decide_eq_false (by omega)
     have hX0:X1=[]:=List.eq_nil_of_length_eq_zero (by omega)
     have hsy:=ZeM sY1
     repeat (first | refine xR @dB1 ?_ | exact xU @dB1)
     refine SWp.skip (Zau rfl ?_ ?_ ?_)
     ·show g1≤g2
      omega
     iterate 2 (case _=>(first | exact vU (ja3 @hX0 @hsy @List.nil_append.{0}) | refine vR (ja3 @hX0 @hsy @List.nil_append.{0}) ?_))
   have hfin:Pf++(Zas (X1++Y1)++(Zas (X2++Y2)++Tl))=Pf++(Zas (X++Y)++Tl):=by rw [hcut];simp
   by_cases ca:mid<e
   ·have dC1:decide ((mid:Int)<(e:Int))=true:=decide_eq_true (by omega)
    by_cases cb:e<b
    ·have dC2:decide ((e:Int)<(b:Int))=true:=decide_eq_true (by omega)
     have hrec:=ih (X2.length+Y2.length) (by omega) (Pf++Zas (X1++Y1)) X2 Y2 Tl N mid e b rfl (by rw [hN,hWl];simp [Zan];omega) hl (by simp [Zan];omega) (by simp [Zan];omega) (by omega) (by omega) (by omega) sX2 sY2
     simp only [List.append_assoc] at hrec
     rw [hfin] at hrec
     repeat (first | refine xR (ja2 @dC1 @dC2) ?_ | exact xU (ja2 @dC1 @dC2))
     refine Zag [(1000,0)] 2000 hrec (by simp) (by simp) ?_ ?_ ?_
     iterate 2 (case _=>(first | exact vU (ja2 @Zam @Zdi.eq_1) | refine vR (ja2 @Zam @Zdi.eq_1) ?_))
     repeat (first | refine xR (ja2 @Zam @ZaB) ?_ | exact xU (ja2 @Zam @ZaB))
     omega
    ·have dC2:decide ((e:Int)<(b:Int))=false:=decide_eq_false (by omega)
     have hY0:Y2=[]:=List.eq_nil_of_length_eq_zero (by omega)
     have hsx:=ZeM sX2
     have hg:g2≤KM n:=by omega
     rw [hY0,List.append_nil,hsx] at hfin
     repeat (first | refine xR (ja7 @dC1 @dC2 @ZaB @hY0 @List.nil_append.{0} @hfin @hg) ?_ | exact xU (ja7 @dC1 @dC2 @ZaB @hY0 @List.nil_append.{0} @hfin @hg))
   ·have dC1:decide ((mid:Int)<(e:Int))=false:=decide_eq_false (by omega)
    have hX0:X2=[]:=List.eq_nil_of_length_eq_zero (by omega)
    have hsy:=ZeM sY2
    have hg:g2≤KM n:=by omega
    rw [hX0,List.nil_append,hsy] at hfin
    repeat (first | refine xR (ja6 @dC1 @ZaB @hX0 @List.nil_append.{0} @hfin @hg) ?_ | exact xU (ja6 @dC1 @ZaB @hX0 @List.nil_append.{0} @hfin @hg))
 ·have dm:decide ((m:Int)>(mid:Int))=false:=decide_eq_false (by omega)
  obtain ⟨s0,hs0⟩:∃ s0,s0=a:=⟨_,rfl⟩
  obtain ⟨r0,hr0⟩:∃ r0,r0=m:=⟨_,rfl⟩
  have b1:a≤s0:=by omega
  have b2:s0≤r0:=by omega
  have b3:r0≤m:=by omega
  have b4:nn-s0≤b:=by omega
  have b5:m≤nn-r0:=by omega
  have i1:∀ x∈X.take (s0-a),∀ y∈Y.drop (nn-s0-m),x.1≤y.1:=fun x hx=>by
   rw [show s0-a=0 from by omega] at hx;simp at hx
  have i2:∀ y∈Y.take (nn-r0-m),∀ x∈X.drop (r0-a),y.1<x.1:=fun y _ x hx=>by
   rw [List.drop_of_length_le (by omega)] at hx;simp at hx
  repeat (first | refine xR (ja6 @d0 @d00 @emid @enn @dm @epp) ?_ | exact xU (ja6 @d0 @d00 @emid @enn @dm @epp))
  refine SWp.loop (α:=Nat × Nat) (fun p=>mk 220 1 [(0,.own 1000 0 (some 2) 0 N),(1,int a),(2,int m),(3,int b),(4,Zdi),(18,int mid),(19,int nn),(20,int p.1),(21,int p.2),(22,int pp)] [(1000,0,.row false (bC W))])
   (fun p=>a≤p.1∧p.1≤p.2∧p.2≤m∧nn-p.1≤b∧m≤nn-p.2∧(∀ x∈X.take (p.1-a),∀ y∈Y.drop (nn-p.1-m),x.1≤y.1)∧(∀ y∈Y.take (nn-p.2-m),∀ x∈X.drop (p.2-a),y.1<x.1)) (fun p=>p.2-p.1) (s0,r0) ⟨b1,b2,b3,b4,b5,i1,i2⟩ (Zau rfl ?_ ?_ ?_) ?_
  ·exact Nat.le_refl _
  iterate 2 (case _=>(first | exact vU (ja2 @hs0 @hr0) | refine vR (ja2 @hs0 @hr0) ?_))
  clear i1 i2 b1 b2 b3 b4 b5
  rintro ⟨s,r⟩ ⟨b1,b2,b3,b4,b5,i1,i2⟩ -
  simp only at b1 b2 b3 b4 b5 i1 i2
  repeat (first | refine xS ?_ | exact xT)
  refine SWp.cond rfl (fun h=>?_) (fun h=>?_)
  ·simp only [decide_eq_true_eq] at h
   obtain ⟨q,hq⟩:∃ q,q=(s+r) / 2:=⟨_,rfl⟩
   obtain ⟨e,he⟩:∃ e,e=pp-q:=⟨_,rfl⟩
   have eq1:IntKind.i64.wrap ((IntKind.u64.wrap ((s:Int)+(r:Int))).fdiv (2^1))=(q:Int):=by
    rw [Zbi (by omega) (by omega),show ((2:Int)^1)=2 from rfl,Int.fdiv_eq_ediv_of_nonneg _ (by omega),ZbI (by omega) (by omega)]
    omega
   have eq2:(pp:Int)-(q:Int)=(e:Int):=by omega
   obtain ⟨u,hu⟩:∃ u,u=q-a:=⟨_,rfl⟩
   obtain ⟨v,hv⟩:∃ v,v=e-m:=⟨_,rfl⟩
   have huX:u<X.length:=by omega
   have hvY:v<Y.length:=by omega
   have hql:q<W.length:=by omega
   have hel:e<W.length:=by omega
   have e1:=Zc7 hql
   have e2:=Zc7 hel
   have g1:W.getD q (0,[])=X.getD u (0,[]):=by
    rw [hW]
    simp only [List.getD]
    rw [List.getElem?_append_right (by omega),show q-Pf.length=u from by omega,List.getElem?_append_left huX]
   have g2:W.getD e (0,[])=Y.getD v (0,[]):=by
    rw [hW]
    simp only [List.getD]
    rw [List.getElem?_append_right (by omega),List.getElem?_append_right (by omega),show e-Pf.length-X.length=v from by omega,List.getElem?_append_left hvY]
   obtain ⟨x,hx⟩:∃ x,x=X.getD u (0,[]):=⟨_,rfl⟩
   obtain ⟨y,hy⟩:∃ y,y=Y.getD v (0,[]):=⟨_,rfl⟩
   rw [g1,←hx] at e1
   rw [g2,←hy] at e2
   have e3:(bC W).length=N*2:=by rw [Za2,hN]
   have heN:e*2+2≤N*2:=by omega
   have hqN:q*2+2≤N*2:=by omega
   have x1:=ZjB hX huX
   have x2:=ZjC hX huX
   have y1:=ZjB hY hvY
   have y2:=ZjC hY hvY
   rw [←hx] at x1 x2
   rw [←hy] at y1 y2
   repeat (first | refine xR (ja5 @eq1 @eq2 @e1 @e2 @e3) ?_ | exact xU (ja5 @eq1 @eq2 @e1 @e2 @e3))
   refine Zsa Zbp rfl (by decide) ?_
   refine Zay _ (.inl ⟨by simp only [AV.free,AV.free.freeL,nA,Zab,Bool.and_self],Zdg (y.1:Int) (x.1:Int) _ _ (by simp only [AV.free,Zab]) (by simp only [AV.free,Zab])⟩) ?_
   by_cases c:y.1<x.1
   ·have dc:decide (Zl1 (y.1:Int) (x.1:Int)<0)=true:=by
     unfold Zl1;rw [if_pos (by omega)];rfl
    repeat (first | refine xR @dc ?_ | exact xU @dc)
    refine At.of (s,q) ⟨b1,by simp only;omega,by simp only;omega,b4,by simp only;omega,i1,fun y' hy' x' hx'=>?_⟩ (by simp only;omega) rfl rfl (Nat.le_refl _) ?_ ?_
    ·simp only at hy' hx'
     rw [show nn-q-m=v+1 from by omega] at hy'
     rw [show q-a=u from by omega] at hx'
     have h1:=y1 y' hy'
     have h2:=x2 x' hx'
     omega
    ·(first | exact vT | refine vS ?_)
     try omega
    ·(first | exact vT | refine vS ?_)
   ·have dc:decide (Zl1 (y.1:Int) (x.1:Int)<0)=false:=by
     unfold Zl1;rw [if_neg (by omega)];split <;> rfl
    repeat (first | refine xR @dc ?_ | exact xU @dc)
    refine At.of (q+1,r) ⟨by simp only;omega,by simp only;omega,b3,by simp only;omega,b5,fun x' hx' y' hy'=>?_,i2⟩ (by simp only;omega) rfl rfl (Nat.le_refl _) ?_ ?_
    ·simp only at hy' hx'
     rw [show nn-(q+1)-m=v from by omega] at hy'
     rw [show q+1-a=u+1 from by omega] at hx'
     have h1:=x1 x' hx'
     have h2:=y2 y' hy'
     omega
    ·(first | exact vT | refine vS ?_)
     try omega
    ·(first | exact vT | refine vS ?_)
  ·simp only [decide_eq_false_iff_not] at h
   obtain rfl:s=r:=by omega
   obtain ⟨X1,hX1'⟩:∃ X1,X1=X.take (s-a):=⟨_,rfl⟩
   obtain ⟨X2,hX2'⟩:∃ X2,X2=X.drop (s-a):=⟨_,rfl⟩
   obtain ⟨Y1,hY1'⟩:∃ Y1,Y1=Y.take (nn-s-m):=⟨_,rfl⟩
   obtain ⟨Y2,hY2'⟩:∃ Y2,Y2=Y.drop (nn-s-m):=⟨_,rfl⟩
   rw [←hX1',←hY2'] at i1
   rw [←hY1',←hX2'] at i2
   have hXX:X=X1++X2:=by rw [hX1',hX2',List.take_append_drop]
   have hYY:Y=Y1++Y2:=by rw [hY1',hY2',List.take_append_drop]
   obtain ⟨e,he⟩:∃ e,e=nn-s:=⟨_,rfl⟩
   have l1:X1.length=s-a:=by rw [hX1',List.length_take];omega
   have l2:X2.length=m-s:=by rw [hX2',List.length_drop];omega
   have l3:Y1.length=e-m:=by rw [hY1',List.length_take];omega
   have l4:Y2.length=b-e:=by rw [hY2',List.length_drop];omega
   have eens:(nn:Int)-(s:Int)=(e:Int):=by omega
   have hWl:W=Pf++(X1++(X2++(Y1++(Y2++Tl)))):=by rw [hW,hXX,hYY];simp
   have sX:=hX
   have sY:=hY
   rw [hXX] at sX
   rw [hYY] at sY
   have hcut:=ZoT sX sY i1 i2
   rw [←hXX,←hYY] at hcut
   obtain ⟨sX1,sX2,_⟩:=List.pairwise_append.1 sX
   obtain ⟨sY1,sY2,_⟩:=List.pairwise_append.1 sY
   iterate 4 (first | refine xR @eens ?_ | exact xU @eens)
   have lp:X1.length+Y1.length=mid-a:=by omega
   have lq:X2.length+Y2.length=b-mid:=by omega
   have hKK:=ZEA (p:=X1.length+Y1.length) (q:=X2.length+Y2.length) (by omega) (by omega)
   rw [show X1.length+Y1.length+(X2.length+Y2.length)=n from by omega] at hKK
   obtain ⟨g1,hg1⟩:∃ g1,g1=1+(2+(X2.length+Y1.length)):=⟨_,rfl⟩
   refine SWp.toT (F:=mk 220 g1 [(0,.own 1000 0 (some 2) 0 N),(1,int a),(2,int m),(3,int b),(4,Zdi),(18,int mid),(20,int s),(24,int e)] [(1000,0,.row false (bC (Pf++(X1++(Y1++(X2++(Y2++Tl)))))))]) ?_ ?_
   ·by_cases ca:s<m
    ·have dA1:decide ((s:Int)<(m:Int))=true:=decide_eq_true (by omega)
     by_cases cb:m<e
     ·have dA2:decide ((m:Int)<(e:Int))=true:=decide_eq_true (by omega)
      have hrot:=Zjj (Pf++X1) X2 Y1 (Y2++Tl) N s m e (by rw [hN,hWl];simp) hl (by simp;omega) (by simp;omega) (by simp;omega) (by omega) (by omega)
      simp only [List.append_assoc] at hrot
      rw [←hWl] at hrot
      repeat (first | refine xR (ja2 @dA1 @dA2) ?_ | exact xU (ja2 @dA1 @dA2))
      refine Zag [(1000,0)] 2000 hrot (by simp) (by simp) ?_ ?_ ?_
      iterate 2 (case _=>(first | exact vU (ja2 @Zam @Zdi.eq_1) | refine vR (ja2 @Zam @Zdi.eq_1) ?_))
      repeat (first | refine xR @Zam ?_ | exact xU @Zam)
      refine Zau rfl ?_ ?_ ?_
      ·show 1+(2+(X2.length+Y1.length))≤g1
       omega
      iterate 2 (case _=>(first | exact vT | refine vS ?_))
     ·have dA2:decide ((m:Int)<(e:Int))=false:=decide_eq_false (by omega)
      have hY0:Y1=[]:=List.eq_nil_of_length_eq_zero (by omega)
      repeat (first | refine xR (ja2 @dA1 @dA2) ?_ | exact xU (ja2 @dA1 @dA2))
      refine SWp.skip (Zau rfl ?_ ?_ ?_)
      ·show 1≤g1
       omega
      iterate 2 (case _=>(first | exact vU (ja2 @hWl @hY0) | refine vR (ja2 @hWl @hY0) ?_))
    ·have dA1:decide ((s:Int)<(m:Int))=false:=decide_eq_false (by omega)
     have hX0:X2=[]:=List.eq_nil_of_length_eq_zero (by omega)
     repeat (first | refine xR @dA1 ?_ | exact xU @dA1)
     refine SWp.skip (Zau rfl ?_ ?_ ?_)
     ·show 1≤g1
      omega
     iterate 2 (case _=>(first | exact vU (ja2 @hWl @hX0) | refine vR (ja2 @hWl @hX0) ?_))
   obtain ⟨g2,hg2⟩:∃ g2,g2=g1+KM (X1.length+Y1.length):=⟨_,rfl⟩
   refine SWp.to (F:=mk 220 g2 [(0,.own 1000 0 (some 2) 0 N),(1,int a),(2,int m),(3,int b),(4,Zdi),(18,int mid),(20,int s),(24,int e)] [(1000,0,.row false (bC (Pf++(Zas (X1++Y1)++(X2++(Y2++Tl))))))]) ?_ ?_
   ·by_cases ca:a<s
    ·have dB1:decide ((a:Int)<(s:Int))=true:=decide_eq_true (by omega)
     by_cases cb:s<mid
     ·have dB2:decide ((s:Int)<(mid:Int))=true:=decide_eq_true (by omega)
      have hrec:=ih (X1.length+Y1.length) (by omega) Pf X1 Y1 (X2++(Y2++Tl)) N a s mid rfl (by rw [hN,hWl];simp;omega) hl ha (by omega) (by omega) (by omega) (by omega) sX1 sY1
      repeat (first | refine xR (ja2 @dB1 @dB2) ?_ | exact xU (ja2 @dB1 @dB2))
      refine Zag [(1000,0)] 2000 hrec (by simp) (by simp) ?_ ?_ ?_
      iterate 2 (case _=>(first | exact vU (ja2 @Zam @Zdi.eq_1) | refine vR (ja2 @Zam @Zdi.eq_1) ?_))
      repeat (first | refine xR @Zam ?_ | exact xU @Zam)
      refine Zau rfl ?_ ?_ ?_
      ·show g1+KM (X1.length+Y1.length)≤g2
       omega
      iterate 2 (case _=>(first | exact vT | refine vS ?_))
     ·have dB2:decide ((s:Int)<(mid:Int))=false:=decide_eq_false (by omega)
      have hY0:Y1=[]:=List.eq_nil_of_length_eq_zero (by omega)
      have hsx:=ZeM sX1
      repeat (first | refine xR (ja2 @dB1 @dB2) ?_ | exact xU (ja2 @dB1 @dB2))
      refine SWp.skip (Zau rfl ?_ ?_ ?_)
      ·show g1≤g2
       omega
      iterate 2 (case _=>(first | exact vU (ja3 @hY0 @hsx @List.append_nil.{0}) | refine vR (ja3 @hY0 @hsx @List.append_nil.{0}) ?_))
    ·have dB1:decide ((a:Int)<(s:Int))=false:=decide_eq_false (by omega)
     have hX0:X1=[]:=List.eq_nil_of_length_eq_zero (by omega)
     have hsy:=ZeM sY1
     repeat (first | refine xR @dB1 ?_ | exact xU @dB1)
     refine SWp.skip (Zau rfl ?_ ?_ ?_)
     ·show g1≤g2
      omega
     iterate 2 (case _=>(first | exact vU (ja3 @hX0 @hsy @List.nil_append.{0}) | refine vR (ja3 @hX0 @hsy @List.nil_append.{0}) ?_))
   have hfin:Pf++(Zas (X1++Y1)++(Zas (X2++Y2)++Tl))=Pf++(Zas (X++Y)++Tl):=by rw [hcut];simp
   by_cases ca:mid<e
   ·have dC1:decide ((mid:Int)<(e:Int))=true:=decide_eq_true (by omega)
    by_cases cb:e<b
    ·have dC2:decide ((e:Int)<(b:Int))=true:=decide_eq_true (by omega)
     have hrec:=ih (X2.length+Y2.length) (by omega) (Pf++Zas (X1++Y1)) X2 Y2 Tl N mid e b rfl (by rw [hN,hWl];simp [Zan];omega) hl (by simp [Zan];omega) (by simp [Zan];omega) (by omega) (by omega) (by omega) sX2 sY2
     simp only [List.append_assoc] at hrec
     rw [hfin] at hrec
     repeat (first | refine xR (ja2 @dC1 @dC2) ?_ | exact xU (ja2 @dC1 @dC2))
     refine Zag [(1000,0)] 2000 hrec (by simp) (by simp) ?_ ?_ ?_
     iterate 2 (case _=>(first | exact vU (ja2 @Zam @Zdi.eq_1) | refine vR (ja2 @Zam @Zdi.eq_1) ?_))
     repeat (first | refine xR (ja2 @Zam @ZaB) ?_ | exact xU (ja2 @Zam @ZaB))
     omega
    ·have dC2:decide ((e:Int)<(b:Int))=false:=decide_eq_false (by omega)
     have hY0:Y2=[]:=List.eq_nil_of_length_eq_zero (by omega)
     have hsx:=ZeM sX2
     have hg:g2≤KM n:=by omega
     rw [hY0,List.append_nil,hsx] at hfin
     repeat (first | refine xR (ja7 @dC1 @dC2 @ZaB @hY0 @List.nil_append.{0} @hfin @hg) ?_ | exact xU (ja7 @dC1 @dC2 @ZaB @hY0 @List.nil_append.{0} @hfin @hg))
   ·have dC1:decide ((mid:Int)<(e:Int))=false:=decide_eq_false (by omega)
    have hX0:X2=[]:=List.eq_nil_of_length_eq_zero (by omega)
    have hsy:=ZeM sY2
    have hg:g2≤KM n:=by omega
    rw [hX0,List.nil_append,hsy] at hfin
    repeat (first | refine xR (ja6 @dC1 @ZaB @hX0 @List.nil_append.{0} @hfin @hg) ?_ | exact xU (ja6 @dC1 @ZaB @hX0 @List.nil_append.{0} @hfin @hg))
inductive BkT (w:Nat):List Bt→Prop
 | last (S:List Bt):S.length≤w→Srt S→BkT w S
 | cons (S T:List Bt):S.length=w→Srt S→BkT w T→BkT w (S++T)
inductive BkP (w:Nat):List Bt→Prop
 | nil:BkP w []
 | snoc (P S:List Bt):BkP w P→S.length=w→Srt S→BkP w (P++S)
theorem ZuS {w:Nat} {P:List Bt} (h:BkP w P):∀ {T:List Bt},BkT w T→BkT w (P++T):=by
 induction h with
 | nil=>intro T hT;exact hT
 | snoc P S hP hS hs ih=>intro T hT;rw [List.append_assoc];exact ih (.cons S T hS hs hT)
theorem ZAV {w:Nat} {T:List Bt} (h:BkT w T) (hl:T.length≤w):Srt T:=by
 cases h with
 | last _ h1 h2=>exact h2
 | cons S T h1 h2 h3 =>
  have:T=[]:=List.length_eq_zero_iff.1 (by rw [List.length_append] at hl;omega)
  subst this
  rw [List.append_nil];exact h2
theorem ZH2 {w:Nat} (hw:1≤w) {T:List Bt} (h:BkT w T) (hl:2*w≤T.length):∃ X Y T',T=X++(Y++T')∧X.length=w∧Y.length=w∧Srt X∧Srt Y∧BkT w T':=by
 cases h with
 | last _ h1 h2=>omega
 | cons S T h1 h2 h3 =>
  rw [List.length_append] at hl
  cases h3 with
  | last _ h4 h5=>exact ⟨S,T,[],by simp,h1,by omega,h2,h5,.last [] (by simp) List.Pairwise.nil⟩
  | cons S' T' h4 h5 h6=>exact ⟨S,S',T',rfl,h1,h4,h2,h5,h6⟩
theorem ZGp {w:Nat} {T:List Bt} (h:BkT w T) (hl:w<T.length) (hl2:T.length<2*w):∃ X Y,T=X++Y∧X.length=w∧1≤Y.length∧Srt X∧Srt Y:=by
 cases h with
 | last _ h1 h2=>omega
 | cons S T h1 h2 h3 =>
  rw [List.length_append] at hl hl2
  exact ⟨S,T,rfl,h1,by omega,h2,ZAV h3 (by omega)⟩
theorem ZjD {P S T:List Bt}:Zas (P++(Zas S++T))=Zas (P++(S++T)):=by
 refine ZnT (ZcO _) fun c=>?_
 rw [ZdH]
 simp only [List.filter_append,ZdH]
def KS (N:Nat):Nat:=N+5+KM N*(2*N+20)
theorem ZH3 {n N:Nat} (h:n≤N):KM n≤10*N*n:=by
 unfold KM
 exact Nat.mul_le_mul_right n (by omega)
set_option maxHeartbeats 1000000 in
set_option maxRecDepth 100000 in
theorem ZoV [Tabs Tryz.prog] (l:List Bt) (N:Nat) (hN:N=l.length) (hl:N≤10000) :
  HCon Tryz.prog Zb2 [.own 1000 0 (some 2) 0 N,int N,Zdi] [.row false (bC l)] (.tup []) [(1000,0,.row false (bC (Zas l)))] (KS N):=by
 refine HCon.of' mix Tryz.func157 rfl Tryz.ntmps157 Zef Zeg (by simp) (by simp only [AV.gl.glL,AV.gl,int,Zdi,and_true];omega) ZsV ?_
 unfold Zb3
 repeat (first | refine zS ?_ | exact zT)
 refine SWp.loop (α:=List Bt × List Bt) (fun x=>mk 63 (1+x.1.length) [(0,.own 1000 0 (some 2) 0 N),(1,int N),(2,Zdi),(6,int 20),(7,int (x.1.length:Nat)),(8,int (x.1.length+20:Nat))] [(1000,0,.row false (bC (x.1++x.2)))])
  (fun x=>BkP 20 x.1∧Zas (x.1++x.2)=Zas l∧x.1.length+x.2.length=N) (fun x=>x.2.length) ([],l) ⟨.nil,rfl,by simp [hN]⟩ (Zau rfl ?_ ?_ ?_) ?_
 ·exact Nat.le_refl _
 iterate 2 (case _=>(first | exact yT | refine yS ?_))
 rintro ⟨P,T⟩ ⟨hP,hS,hlen⟩ -
 simp only at hP hS hlen
 obtain ⟨a,ha⟩:∃ a,a=P.length:=⟨_,rfl⟩
 obtain ⟨b,hb⟩:∃ b,b=a+20:=⟨_,rfl⟩
 rw [←ha,←hb]
 by_cases c:b≤N
 ·have d:decide ((b:Int)≤(N:Int))=true:=decide_eq_true (by omega)
  obtain ⟨X,T',rfl,hX⟩:∃ X T',T=X++T'∧X.length=20:=⟨T.take 20,T.drop 20,(List.take_append_drop 20 T).symm,by rw [List.length_take];omega⟩
  rw [List.length_append] at hlen
  have hc:=Zet P X T' N a b (by simp only [List.length_append];omega) (by omega) ha (by omega)
  obtain ⟨b2,hb2⟩:∃ b2,b2=b+20:=⟨_,rfl⟩
  have eb:(b:Int)+20=(b2:Int):=by omega
  have hPl:(P++Zas X).length=b:=by rw [List.length_append,Zan];omega
  repeat (first | refine zR @d ?_ | exact zU @d)
  refine Zag [(1000,0)] 2000 hc (by simp) (by simp) ?_ ?_ ?_
  iterate 2 (case _=>(first | exact yU (ja2 @Zam @Zdi.eq_1) | refine yR (ja2 @Zam @Zdi.eq_1) ?_))
  repeat (first | refine zR (ja2 @Zam @eb) ?_ | exact zU (ja2 @Zam @eb))
  refine At.of (P++Zas X,T') ⟨.snoc P _ hP (by rw [Zan];exact hX) (ZcO _),?_,?_⟩ ?_ rfl rfl ?_ ?_ ?_
  ·simp only
   rw [List.append_assoc,ZjD,hS]
  ·simp only
   rw [hPl];omega
  ·simp only [List.length_append];omega
  ·simp only
   rw [hPl];omega
  ·have e2:(((P++Zas X).length+20:Nat):Int)=(b2:Int):=by rw [hPl];omega
   simp only [e2,hPl]
   (first | exact yT | refine yS ?_)
   omega
  ·(first | exact yT | refine yS ?_)
 ·have d:decide ((b:Int)≤(N:Int))=false:=decide_eq_false (by omega)
  have hc:=Zet P T [] N a N (by simp only [List.length_append,List.length_nil];omega) (by omega) ha (by omega)
  rw [List.append_nil,List.append_nil] at hc
  repeat (first | refine zR @d ?_ | exact zU @d)
  refine Zag [(1000,0)] 2000 hc (by simp) (by simp) ?_ ?_ ?_
  iterate 2 (case _=>(first | exact yU (ja2 @Zam @Zdi.eq_1) | refine yR (ja2 @Zam @Zdi.eq_1) ?_))
  repeat (first | refine zR @Zam ?_ | exact zU @Zam)
  refine SWp.loop (α:=List Bt × Nat) (fun x=>mk 63 (N+3+KM N*x.2) [(0,.own 1000 0 (some 2) 0 N),(1,int N),(2,Zdi),(6,int (x.2:Nat))] [(1000,0,.row false (bC x.1))])
   (fun x=>BkT x.2 x.1∧Zas x.1=Zas l∧x.1.length=N∧1≤x.2∧x.2≤2*N+20) (fun x=>N-x.2) (P++Zas T,20) ⟨ZuS hP (.last _ (by rw [Zan];omega) (ZcO _)),?_,?_,by simp,by simp⟩ (Zau rfl ?_ ?_ ?_) ?_
  ·have:=ZjD (P:=P) (S:=T) (T:=[])
   rw [List.append_nil,List.append_nil] at this
   simp only
   rw [this,hS]
  ·simp only [List.length_append,Zan];omega
  ·show 1+a+1≤N+3+KM N*20
   omega
  iterate 2 (case _=>(first | exact yU @Zam | refine yR @Zam ?_))
  clear hc hS hP hlen d c
  rintro ⟨R,w⟩ ⟨hB,hSo,hRl,hw1,hw2⟩ -
  simp only at hB hSo hRl hw1 hw2
  by_cases cw:w<N
  ·have d:decide ((w:Int)<(N:Int))=true:=decide_eq_true (by omega)
   obtain ⟨w2,hw2e⟩:∃ w2,w2=2*w:=⟨_,rfl⟩
   have ew:2*(w:Int)=(w2:Int):=by omega
   have ew':(w:Int)*2=(w2:Int):=by omega
   have fN:KM N*w2=KM N*w+KM N*w:=by rw [hw2e,←Nat.mul_assoc,Nat.mul_comm (KM N) 2,Nat.mul_assoc];omega
   have fw:KM N≤KM N*w:=Nat.le_mul_of_pos_right _ (by omega)
   repeat (first | refine zR (ja2 @d @ew) ?_ | exact zU (ja2 @d @ew))
   refine SWp.loop (α:=List Bt × List Bt) (fun x=>mk 63 (N+3+KM N*w+10*N*x.1.length) [(0,.own 1000 0 (some 2) 0 N),(1,int N),(2,Zdi),(6,int w),(7,int (x.1.length:Nat)),(8,int (x.1.length+w2:Nat))] [(1000,0,.row false (bC (x.1++x.2)))])
    (fun x=>BkP w2 x.1∧BkT w x.2∧Zas (x.1++x.2)=Zas l∧x.1.length+x.2.length=N) (fun x=>x.2.length) ([],R) ⟨.nil,hB,hSo,by simp [hRl]⟩ (Zau rfl ?_ ?_ ?_) ?_
   ·exact Nat.le_refl _
   iterate 2 (case _=>(first | exact yT | refine yS ?_))
   rintro ⟨P2,T2⟩ ⟨hP2,hT2,hS2,hl2⟩ -
   simp only at hP2 hT2 hS2 hl2
   obtain ⟨a2,ha2⟩:∃ a2,a2=P2.length:=⟨_,rfl⟩
   obtain ⟨b2,hb2⟩:∃ b2,b2=a2+w2:=⟨_,rfl⟩
   obtain ⟨mid,hmid⟩:∃ mid,mid=a2+w:=⟨_,rfl⟩
   have em:(a2:Int)+(w:Int)=(mid:Int):=by omega
   rw [←ha2,←hb2]
   by_cases cb:b2≤N
   ·have d2:decide ((b2:Int)≤(N:Int))=true:=decide_eq_true (by omega)
    obtain ⟨X,Y,T',rfl,hX,hY,hXs,hYs,hT'⟩:=ZH2 hw1 hT2 (by omega)
    simp only [List.length_append] at hl2
    have hc:=ZhF w2 P2 X Y T' N a2 mid b2 (by omega) (by simp only [List.length_append];omega) (by omega) ha2 (by omega) (by omega) (by omega) (by omega) hXs hYs
    obtain ⟨b3,hb3⟩:∃ b3,b3=b2+w2:=⟨_,rfl⟩
    have eb:(b2:Int)+(w2:Int)=(b3:Int):=by omega
    have hPl:(P2++Zas (X++Y)).length=b2:=by simp only [List.length_append,Zan];omega
    have f1:10*N*b2=10*N*a2+10*N*w2:=by rw [hb2,Nat.mul_add]
    have f2:KM w2≤10*N*w2:=ZH3 (by omega)
    repeat (first | refine zR (ja2 @d2 @em) ?_ | exact zU (ja2 @d2 @em))
    refine Zag [(1000,0)] 2000 hc (by simp) (by simp) ?_ ?_ ?_
    iterate 2 (case _=>(first | exact yU (ja2 @Zam @Zdi.eq_1) | refine yR (ja2 @Zam @Zdi.eq_1) ?_))
    repeat (first | refine zR (ja3 @Zam @ew @eb) ?_ | exact zU (ja3 @Zam @ew @eb))
    refine At.of (P2++Zas (X++Y),T') ⟨.snoc P2 _ hP2 (by rw [Zan,List.length_append];omega) (ZcO _),hT',?_,?_⟩ ?_ rfl rfl ?_ ?_ ?_
    ·simp only
     rw [List.append_assoc,ZjD,←hS2,List.append_assoc]
    ·simp only
     rw [hPl];omega
    ·simp only [List.length_append];omega
    ·simp only
     rw [hPl];omega
    ·have e2:(((P2++Zas (X++Y)).length+w2:Nat):Int)=(b3:Int):=by rw [hPl];omega
     simp only [e2,hPl]
     (first | exact yT | refine yS ?_)
     omega
    ·(first | exact yT | refine yS ?_)
   ·have d2:decide ((b2:Int)≤(N:Int))=false:=decide_eq_false (by omega)
    have hKN:KM N=10*N*a2+10*N*(N-a2):=by
     rw [←Nat.mul_add,show a2+(N-a2)=N by omega];rfl
    by_cases cm:mid<N
    ·have d3:decide ((mid:Int)<(N:Int))=true:=decide_eq_true (by omega)
     obtain ⟨X,Y,rfl,hX,hY,hXs,hYs⟩:=ZGp hT2 (by omega) (by omega)
     simp only [List.length_append] at hl2
     have hc:=ZhF (N-a2) P2 X Y [] N a2 mid N (by omega) (by simp only [List.length_append,List.length_nil];omega) (by omega) ha2 (by omega) (by omega) (by omega) hY hXs hYs
     rw [List.append_nil,List.append_nil] at hc
     have f2:KM (N-a2)≤10*N*(N-a2):=ZH3 (by omega)
     repeat (first | refine zR (ja3 @d2 @em @d3) ?_ | exact zU (ja3 @d2 @em @d3))
     refine Zag [(1000,0)] 2000 hc (by simp) (by simp) ?_ ?_ ?_
     iterate 2 (case _=>(first | exact yU (ja2 @Zam @Zdi.eq_1) | refine yR (ja2 @Zam @Zdi.eq_1) ?_))
     repeat (first | refine zR (ja2 @Zam @ew') ?_ | exact zU (ja2 @Zam @ew'))
     refine At.of (P2++Zas (X++Y),w2) ⟨ZuS hP2 (.last _ (by rw [Zan,List.length_append];omega) (ZcO _)),?_,?_,by simp only;omega,by simp only;omega⟩ (by simp only;omega) rfl rfl ?_ ?_ ?_
     ·have:=ZjD (P:=P2) (S:=X++Y) (T:=[])
      rw [List.append_nil,List.append_nil] at this
      simp only
      rw [this,hS2]
     ·simp only [List.length_append,Zan];omega
     ·simp only;omega
     iterate 2 (case _=>(first | exact yT | refine yS ?_))
    ·have d3:decide ((mid:Int)<(N:Int))=false:=decide_eq_false (by omega)
     repeat (first | refine zR (ja4 @d2 @em @d3 @ew') ?_ | exact zU (ja4 @d2 @em @d3 @ew'))
     refine At.of (P2++T2,w2) ⟨ZuS hP2 (.last _ (by omega) (ZAV hT2 (by omega))),hS2,?_,by simp only;omega,by simp only;omega⟩ (by simp only;omega) rfl rfl ?_ ?_ ?_
     ·simp only [List.length_append];omega
     ·simp only;omega
     iterate 2 (case _=>(first | exact yT | refine yS ?_))
  ·have d:decide ((w:Int)<(N:Int))=false:=decide_eq_false (by omega)
   have hR:Zas l=R:=by rw [←hSo];exact ZeM (ZAV hB (by omega))
   have f:KM N*w≤KM N*(2*N+20):=Nat.mul_le_mul_left _ hw2
   rw [hR]
   repeat (first | refine zR (ja2 @d @ZaB) ?_ | exact zU (ja2 @d @ZaB))
   all_goals (simp only [KS];omega)
def prs:List Bt→List Bt
 | p::q::r=>(p.1+q.1,p.2++q.2)::prs r
 | _=>[]
def prK (l:List Bt) (k:Nat):List Bt:=(List.range k).map fun j=>((l.getD (2*j) (0,[])).1+(l.getD (2*j+1) (0,[])).1,(l.getD (2*j) (0,[])).2++(l.getD (2*j+1) (0,[])).2)
theorem ZDR {l:List Bt} {k:Nat}:prK l (k+1)=prK l k++[((l.getD (2*k) (0,[])).1+(l.getD (2*k+1) (0,[])).1,(l.getD (2*k) (0,[])).2++(l.getD (2*k+1) (0,[])).2)]:=by
 simp [prK,List.range_succ]
theorem ZjE {l:List Bt} {k:Nat}:(prK l k).length=k:=by simp [prK]
theorem ZuT {l:List Bt} {i:Nat} (h:i<l.length):(l.map bA).getD i .junk = .agg [nA (l.getD i (0,[])).1,.sl false none ((l.getD i (0,[])).2.map nA)]:=by
 simp [List.getD,List.getElem?_eq_getElem h,bA]
theorem ZlM:∀ {l:List Bt},chunks (some 2) l.length (bC l)=l.map bA
 | []=>rfl
 | p::l=>by
  simp only [List.length_cons,ZmD,chunks,esz] at *
  have:=ZlM (l:=l)
  simp [this,bA,chunks]
set_option maxRecDepth 100000 in
theorem Zs2 [Tabs Tryz.prog] (nl:Bool) (l:List Bt) (hl:l.length≤10000) (hs:∀ p∈l,p.1≤1000000000000000∧0<p.2.length∧p.2.length≤50000) :
  Con Tryz.prog Zm0 [.sl nl (some 2) (l.map bA)] (.sl (nl0 (l.length / 2)) (some 2) ((prK l (l.length / 2)).map bA)):=by
 refine Con.of' mix Tryz.func156 rfl Tryz.ntmps156 Zsy Zsz (by simp) (by simp only [AV.free,AV.free.freeL,Zji,Bool.and_self]) (by simp only [AV.free,Zji]) ?_
 unfold Zm7
 iterate 4 (first | refine zS ?_ | exact zT)
 refine SWp.adopt 3 (some 2) (by (first | exact yT | refine yS ?_)) ?_
 repeat (first | refine zS ?_ | exact zT)
 refine SWp.loop (α:=Nat) (fun k=>mk 38 (3*k+1) [(0,.sl nl (some 2) (l.map bA)),(3,.own 3 (3*k) (some 2) 0 k),(4,int (2*k+1:Nat))] [(3,3*k,.row (nl0 k) (bC (prK l k)))])
  (fun k=>2*k≤l.length) (fun k=>l.length-2*k) 0 (by omega) (Zau rfl ?_ ?_ ?_) ?_
 ·exact Nat.le_refl _
 ·(first | exact yT | refine yS ?_)
 ·simp (disch:=omega) only [wP,wZ,so,sm,sg,sn,undef,seval,if_pos,if_neg,ZaZ,frz,AV.flat,↓reduceIte,ne_eq,reduceCtorEq,ByteArray.size,show bC (prK l 0)=[] from rfl,Zbw]
 rintro k hk -
 obtain ⟨q,hq⟩:∃ q,q=2*k+1:=⟨_,rfl⟩
 rw [←hq]
 repeat (first | refine zR @List.length_map.{0,0} ?_ | exact zU @List.length_map.{0,0})
 refine SWp.cond rfl (fun h=>?_) (fun h=>?_)
 ·simp only [decide_eq_true_eq] at h
  have hql:q<l.length:=by omega
  have hpl:2*k<l.length:=by omega
  obtain ⟨p,hp⟩:∃ p,p=2*k:=⟨_,rfl⟩
  obtain ⟨x,hx⟩:∃ x,x=l.getD p (0,[]):=⟨_,rfl⟩
  obtain ⟨y,hy⟩:∃ y,y=l.getD q (0,[]):=⟨_,rfl⟩
  have hxm:x∈l:=by
   rw [hx,hp];simp only [List.getD,List.getElem?_eq_getElem hpl,Option.getD_some];exact List.getElem_mem _
  have hym:y∈l:=by
   rw [hy];simp only [List.getD,List.getElem?_eq_getElem hql,Option.getD_some];exact List.getElem_mem _
  obtain ⟨x1,x2,x3⟩:=hs x hxm
  obtain ⟨y1,y2,y3⟩:=hs y hym
  have e1:(l.map bA).getD p .junk = .agg [.sc (.int .i64 (x.1:Int)),.sl false none (x.2.map nA)]:=by rw [hx];exact ZuT (by omega)
  have e2:(l.map bA).getD q .junk = .agg [.sc (.int .i64 (y.1:Int)),.sl false none (y.2.map nA)]:=by rw [hy];exact ZuT hql
  have eqp:(q:Int)-1=(p:Int):=by omega
  obtain ⟨z,hz⟩:∃ z,z=x.1+y.1:=⟨_,rfl⟩
  have esum:(x.1:Int)+(y.1:Int)=(z:Int):=by omega
  have hpr:prK l (k+1)=prK l k++[(z,x.2++y.2)]:=by rw [ZDR,←hp,show p+1=q from by omega,←hx,←hy,←hz]
  have hcells:bC (prK l k)++[.sc (.int .i64 (z:Int)),.sl false none ((x.2++y.2).map nA)]=bC (prK l (k+1)):=by
   rw [hpr,←ZlL];rfl
  have hcat:=Zkh false false (x.2.map nA) (y.2.map nA) Zab Zab (by rw [List.length_map];omega) (by rw [List.length_map];omega) (by simp only [List.length_map];omega)
  rw [←List.map_append] at hcat
  obtain ⟨xy,hxy⟩:∃ xy,xy=x.2++y.2:=⟨_,rfl⟩
  rw [←hxy] at hcat hcells hpr
  repeat (first | refine zR (ja5 @eqp @e1 @e2 iR @esum) ?_ | exact zU (ja5 @eqp @e1 @e2 iR @esum))
  refine Zay _ (.inl ⟨by simp only [AV.free,AV.free.freeL,Zab,Bool.and_self],hcat⟩) ?_
  repeat (first | refine zR (ja4 @Za2 @ZjE @hcells @Bool.and_false) ?_ | exact zU (ja4 @Za2 @ZjE @hcells @Bool.and_false))
  refine ⟨⟨⟨_,rfl,rfl⟩,Zab⟩,⟨fun w hw=>⟨_,List.mem_singleton.1 hw⟩,by omega,by omega⟩,?_⟩
  have hfl:List.flatMap (fun x=>(Zaq x).getD []) [AV.agg [AV.sc (Value.int IntKind.i64 (z:Int)),AV.sl false none (List.map nA xy)]]=[.sc (.int .i64 (z:Int)),.sl false none (xy.map nA)]:=rfl
  repeat (first | refine zR (ja2 @hfl @hcells) ?_ | exact zU (ja2 @hfl @hcells))
  refine At.of (k+1) (by omega) (by omega) rfl rfl (show 3*k+1+1+1+1≤3*(k+1)+1 by omega) ?_ ?_
  ·simp (disch:=omega) only [wP,wZ,so,sm,sg,sn,undef,seval,if_pos,if_neg,ZaZ,frz,AV.flat,↓reduceIte,ne_eq,reduceCtorEq,ByteArray.size,show 3*k+1+1+1=3*(k+1) from by omega]
   try omega
  ·simp (disch:=omega) only [wP,wZ,so,sm,sg,sn,undef,seval,if_pos,if_neg,ZaZ,frz,AV.flat,↓reduceIte,ne_eq,reduceCtorEq,ByteArray.size,show 3*k+1+1+1=3*(k+1) from by omega,Zgn]
 ·simp only [decide_eq_false_iff_not] at h
  obtain rfl:k=l.length / 2:=by omega
  repeat (first | refine zS ?_ | exact zT)
  rw [if_pos (by rw [Za2,ZjE];omega)]
  have:=ZlM (l:=prK l (l.length / 2))
  rw [ZjE] at this
  rw [this]
def Zie (s:Nat) (l:List Bt):Nat:=(l.flatMap (·.2)).count s
theorem ZlN {s:Nat}:Zie s []=0:=rfl
theorem Zif {s:Nat} {a b:List Bt}:Zie s (a++b)=Zie s a+Zie s b:=by simp [Zie]
theorem Ze0 {s:Nat} {x:Bt} {b:List Bt}:Zie s (x::b)=x.2.count s+Zie s b:=by simp [Zie]
theorem ZAW {s:Nat} {A:List Bt} {x:Bt}:Zie s (ZsX A x)=Zie s A+x.2.count s:=by
 have h:=List.takeWhile_append_dropWhile (p:=fun p:Bt=>decide (p.1≤x.1)) (l:=A)
 have h2:=congrArg (Zie s) h
 rw [Zif] at h2
 rw [ZsX,Zif,Ze0]
 omega
theorem Zqk {s:Nat}:∀ {S A:List Bt},Zie s (S.foldl ZsX A)=Zie s A+Zie s S
 | [],A=>by simp [ZlN]
 | x::S,A=>by rw [List.foldl_cons,Zqk (S:=S),ZAW,Ze0];omega
theorem Zyj {s:Nat} {S:List Bt}:Zie s (Zas S)=Zie s S:=by rw [Zas,Zqk,ZlN];omega
theorem ZDS {S P:List Bt} (hS:Srt S) (hP:Srt P):∀ {t:Nat},t≤S.length+P.length→∃ m p,m≤S.length∧p≤P.length∧m+p=t∧(Zas (S++P)).take t=Zas (S.take m++P.take p) ∧
  (∀ x∈S.take m,∀ y∈P.drop p,x.1≤y.1)∧(∀ y∈P.take p,∀ x∈S.drop m,y.1<x.1):=by
 have fin:∀ {m p:Nat},m≤S.length→p≤P.length→(∀ x∈S.take m,∀ y∈P.drop p,x.1≤y.1)→(∀ y∈P.take p,∀ x∈S.drop m,y.1<x.1)→(Zas (S++P)).take (m+p)=Zas (S.take m++P.take p):=by
  intro m p hm hp h1 h2
  have hc:=ZoT (X1:=S.take m) (X2:=S.drop m) (Y1:=P.take p) (Y2:=P.drop p) (by rw [List.take_append_drop];exact hS) (by rw [List.take_append_drop];exact hP) h1 h2
  rw [List.take_append_drop,List.take_append_drop] at hc
  rw [hc,List.take_left']
  rw [Zan,List.length_append,List.length_take,List.length_take]
  omega
 intro t
 induction t with
 | zero=>intro _;exact ⟨0,0,Nat.zero_le _,Nat.zero_le _,rfl,by simp [Zas],by simp,by simp⟩
 | succ t ih =>
  intro ht
  obtain ⟨m,p,hm,hp,e,-,h1,h2⟩:=ih (by omega)
  have go:(m<S.length∧∀ y∈P.drop p,(S.getD m (0,[])).1≤y.1)∨(p<P.length∧∀ x∈S.drop m,(P.getD p (0,[])).1<x.1):=by
   by_cases cm:m<S.length
   ·by_cases cp:p<P.length
    ·have eS:=List.drop_eq_getElem_cons cm
     have eP:=List.drop_eq_getElem_cons cp
     have sS:Srt (S.drop m):=List.Pairwise.sublist (List.drop_sublist _ _) hS
     have sP:Srt (P.drop p):=List.Pairwise.sublist (List.drop_sublist _ _) hP
     rw [eS] at sS
     rw [eP] at sP
     have sS:=List.pairwise_cons.1 sS
     have sP:=List.pairwise_cons.1 sP
     have gS:S.getD m (0,[])=S[m]:=by simp [List.getD,cm]
     have gP:P.getD p (0,[])=P[p]:=by simp [List.getD,cp]
     rw [gS,gP,eS,eP]
     by_cases c:S[m].1≤P[p].1
     ·refine .inl ⟨cm,fun y hy=>?_⟩
      rcases List.mem_cons.1 hy with rfl | hy
      ·exact c
      ·have:=sP.1 y hy;omega
     ·refine .inr ⟨cp,fun x hx=>?_⟩
      rcases List.mem_cons.1 hx with rfl | hx
      ·omega
      ·have:=sS.1 x hx;omega
    ·refine .inl ⟨cm,fun y hy=>?_⟩
     rw [List.drop_eq_nil_of_le (by omega)] at hy
     simp at hy
   ·refine .inr ⟨by omega,fun x hx=>?_⟩
    rw [List.drop_eq_nil_of_le (by omega)] at hx
    simp at hx
  rcases go with ⟨cm,h⟩ | ⟨cp,h⟩
  ·have h1':∀ x∈S.take (m+1),∀ y∈P.drop p,x.1≤y.1:=by
    intro x hx y hy
    rw [List.take_succ_eq_append_getElem cm,List.mem_append] at hx
    rcases hx with hx | hx
    ·exact h1 x hx y hy
    ·simp only [List.mem_singleton] at hx
     subst hx
     have:=h y hy
     simpa [List.getD,cm] using this
   have h2':∀ y∈P.take p,∀ x∈S.drop (m+1),y.1<x.1:=fun y hy x hx=>h2 y hy x (by
    rw [List.drop_eq_getElem_cons cm];exact List.mem_cons_of_mem _ hx)
   exact ⟨m+1,p,cm,hp,by omega,by rw [show t+1=m+1+p by omega];exact fin cm hp h1' h2',h1',h2'⟩
  ·have h2':∀ y∈P.take (p+1),∀ x∈S.drop m,y.1<x.1:=by
    intro y hy x hx
    rw [List.take_succ_eq_append_getElem cp,List.mem_append] at hy
    rcases hy with hy | hy
    ·exact h2 y hy x hx
    ·simp only [List.mem_singleton] at hy
     subst hy
     have:=h x hx
     simpa [List.getD,cp] using this
   have h1':∀ x∈S.take m,∀ y∈P.drop (p+1),x.1≤y.1:=fun x hx y hy=>h1 x hx y (by
    rw [List.drop_eq_getElem_cons cp];exact List.mem_cons_of_mem _ hy)
   exact ⟨m,p+1,hm,cp,by omega,by rw [show t+1=m+(p+1) by omega];exact fin hm cp h1' h2',h1',h2'⟩
theorem ZhG:∀ (l:List Bt),(prs l).length=l.length / 2
 | []=>rfl
 | [_]=>by simp [prs]
 | p::q::r=>by simp only [prs,List.length_cons,ZhG r];omega
theorem ZvV:∀ (p:Nat) (l:List Bt),2*p≤l.length→(prs l).take p=prs (l.take (2*p))
 | 0,l,_=>by simp [prs]
 | p+1,[],h=>by simp at h
 | p+1,[_],h=>by simp only [List.length_cons,List.length_nil] at h;omega
 | p+1,x::y::r,h=>by
  rw [show 2*(p+1)=2*p+1+1 by omega,List.take_succ_cons,List.take_succ_cons,prs,prs,List.take_succ_cons,ZvV p r (by simp only [List.length_cons] at h;omega)]
theorem ZvW {s:Nat}:∀ (p:Nat) (l:List Bt),l.length=2*p→Zie s (prs l)=Zie s l
 | 0,l,h=>by rw [List.length_eq_zero_iff.1 (by omega:l.length=0)];rfl
 | p+1,[],h=>by simp at h
 | p+1,[_],h=>by simp only [List.length_cons,List.length_nil] at h;omega
 | p+1,x::y::r,h=>by
  rw [prs,Ze0,ZvW p r (by simp only [List.length_cons] at h;omega),Ze0,Ze0,List.count_append]
  omega
theorem Zql:∀ {l:List Bt} {q:Bt},Srt l→q∈prs l→∃ a∈l,∃ b∈l,a.1≤b.1∧q.1=a.1+b.1
 | [],q,_,h=>by simp [prs] at h
 | [_],q,_,h=>by simp [prs] at h
 | x::y::r,q,hs,h=>by
  have hx:=List.pairwise_cons.1 hs
  have hy:=List.pairwise_cons.1 hx.2
  rw [prs,List.mem_cons] at h
  rcases h with rfl | h
  ·exact ⟨x,by simp,y,by simp,hx.1 y (by simp),rfl⟩
  ·obtain ⟨a,ha,b,hb,hab,e⟩:=Zql hy.2 h
   exact ⟨a,by simp [ha],b,by simp [hb],hab,e⟩
theorem ZAX:∀ {l:List Bt},Srt l→Srt (prs l)
 | [],_=>List.Pairwise.nil
 | [_],_=>List.Pairwise.nil
 | x::y::r,hs=>by
  have hx:=List.pairwise_cons.1 hs
  have hy:=List.pairwise_cons.1 hx.2
  rw [prs]
  refine List.pairwise_cons.2 ⟨fun q hq=>?_,ZAX hy.2⟩
  obtain ⟨a,ha,b,hb,-,e⟩:=Zql hy.2 hq
  have h1:=hx.1 a (by simp [ha])
  have h2:=hy.1 b hb
  simp only
  omega
theorem Zs3:∀ {p:Nat} {l:List Bt} {a:Bt},Srt l→(∀ x∈l,0<x.1)→2*p≤l.length→a∈l.take (2*p)→∃ q∈(prs l).take p,a.1<q.1
 | 0,l,a,_,_,_,h=>by simp at h
 | p+1,[],a,_,_,hl,h=>by simp at hl
 | p+1,[_],a,_,_,hl,h=>by simp only [List.length_cons,List.length_nil] at hl;omega
 | p+1,x::y::r,a,hs,hp,hl,h=>by
  have hx:=List.pairwise_cons.1 hs
  have hy:=List.pairwise_cons.1 hx.2
  have px:=hp x (by simp)
  have py:=hp y (by simp)
  rw [show 2*(p+1)=2*p+1+1 by omega,List.take_succ_cons,List.take_succ_cons] at h
  rw [prs,List.take_succ_cons]
  rcases List.mem_cons.1 h with rfl | h
  ·exact ⟨_,List.mem_cons_self,by simp only;omega⟩
  rcases List.mem_cons.1 h with rfl | h
  ·exact ⟨_,List.mem_cons_self,by simp only;omega⟩
  obtain ⟨q,hq,e⟩:=Zs3 hy.2 (fun x hx=>hp x (by simp [hx])) (by simp only [List.length_cons] at hl;omega) h
  exact ⟨q,List.mem_cons_of_mem _ hq,e⟩
theorem ZAY:∀ {l:List Bt},(∀ x∈l,0<x.1)→∀ x∈prs l,0<x.1
 | [],_,x,h=>by simp [prs] at h
 | [_],_,x,h=>by simp [prs] at h
 | a::b::r,hp,x,h=>by
  rw [prs,List.mem_cons] at h
  rcases h with rfl | h
  ·have:=hp a (by simp);simp only;omega
  ·exact ZAY (fun x hx=>hp x (by simp [hx])) x h
def lvB (S:List Bt):Nat→List Bt
 | 0=>S
 | k+1=>Zas (S++prs (lvB S k))
theorem ZEB {S:List Bt} (hp:∀ x∈S,0<x.1):∀ (k:Nat),∀ x∈lvB S k,0<x.1
 | 0=>hp
 | k+1=>fun x hx=>by
  rw [lvB,Zdh,List.mem_append] at hx
  rcases hx with hx | hx
  ·exact hp x hx
  ·exact ZAY (ZEB hp k) x hx
theorem ZH4 {S:List Bt} (hS:Srt S):∀ (k:Nat),Srt (lvB S k)
 | 0=>hS
 | k+1=>ZcO _
inductive Ms (S:List Bt):Nat→Nat→List Nat→Prop
 | zero (m:Nat):m≤S.length→Ms S 0 m [m]
 | succ (k m p m':Nat) (ms:List Nat):m≤S.length→m'≤m→Ms S k (2*p) (m'::ms)→Ms S (k+1) (m+p) (m::m'::ms)
theorem ZH5 {S:List Bt} {k t m:Nat} {ms l:List Nat} (h:Ms S k t l) (e:l=m::ms):m≤S.length:=by
 cases h with
 | zero m hm=>cases e;exact hm
 | succ k m p m' ms hm _ _=>cases e;exact hm
theorem ZH6 {S:List Bt} (hS:Srt S) (hp:∀ x∈S,0<x.1):∀ (k t:Nat),t≤(lvB S k).length →
  ∃ m ms,Ms S k t (m::ms)∧(∀ s,Zie s ((lvB S k).take t)=((m::ms).map fun m=>Zie s (S.take m)).sum)∧∀ j,j<m→∃ x∈(lvB S k).take t,x=S.getD j (0,[])
 | 0,t,ht=>⟨t,[],.zero t ht,fun s=>by simp [lvB],fun j hj=>⟨_,by
   rw [lvB,List.mem_take_iff_getElem]
   exact ⟨j,by simp only [lvB] at ht;omega,rfl⟩,by simp [List.getD,show j<S.length by simp only [lvB] at ht;omega]⟩⟩
 | k+1,t,ht=>by
  have hs:=ZH4 hS k
  rw [lvB,Zan,List.length_append] at ht
  obtain ⟨m,p,hm,hpp,e,htk,h1,h2⟩:=ZDS hS (ZAX hs) ht
  have hl:=ZhG (lvB S k)
  have h2p:2*p≤(lvB S k).length:=by omega
  obtain ⟨m',ms,hMs,hc,hj⟩:=ZH6 hS hp k (2*p) h2p
  have hmm:m'≤m:=by
   by_cases c:m<m'
   ·obtain ⟨x,hx,e⟩:=hj m c
    have hmS:m<S.length:=by
     have:=ZH5 hMs rfl
     omega
    obtain ⟨q,hq,hlt⟩:=Zs3 hs (ZEB hp k) h2p hx
    have h3:=h2 q hq (S.getD m (0,[])) (by rw [List.drop_eq_getElem_cons hmS,List.getD_eq_getElem?_getD,List.getElem?_eq_getElem hmS];exact List.mem_cons_self)
    rw [e] at hlt
    omega
   ·omega
  refine ⟨m,m'::ms,e ▸ .succ k m p m' ms hm hmm hMs,fun s=>?_,fun j hjm=>⟨_,?_,rfl⟩⟩
  ·rw [lvB,htk,Zyj,Zif,ZvV p _ h2p,ZvW p _ (by rw [List.length_take];omega),hc s]
   simp
  ·rw [lvB,htk,Zdh,List.mem_append]
   left
   rw [List.mem_take_iff_getElem]
   exact ⟨j,by omega,by simp [List.getD,show j<S.length by omega]⟩
theorem ZAZ {S:List Bt}:∀ (k c:Nat),S.length≤c*2^k→2*S.length-c≤(lvB S k).length
 | 0,c,h=>by simp only [lvB];omega
 | k+1,c,h=>by
  have:=ZAZ k (2*c) (by rw [Nat.pow_succ] at h;rw [Nat.mul_comm 2 c,Nat.mul_assoc,Nat.mul_comm 2 (2^k)];exact h)
  rw [lvB,Zan,List.length_append,ZhG]
  omega
theorem ZH7 {S:List Bt} {n:Nat} (hn:2≤n):∀ {k t m:Nat} {ms:List Nat},Ms S k t (m::ms)→2*n-2≤t→n≤m:=by
 intro k t m ms h
 generalize hl:m::ms=l at h
 induction h generalizing m ms with
 | zero m0 h0=>cases hl;omega
 | succ k m0 p m' ms0 h1 h2 h3 ih =>
  cases hl
  intro ht
  by_cases c:n≤m0
  ·exact c
  ·have:=ih rfl (by omega)
   omega
def lnM (ms:List Nat) (i:Nat):Nat:=ms.countP fun m=>decide (i<m)
theorem ZA0 {ms:List Nat} {i:Nat}:lnM ms i≤ms.length:=List.countP_le_length
theorem ZA1 {m:Nat} {ms:List Nat} {i:Nat} (h:i<m):1≤lnM (m::ms) i:=by
 unfold lnM
 rw [List.countP_cons,if_pos (decide_eq_true h)]
 omega
theorem Zs4 {S:List Bt} {k t:Nat} {l:List Nat} (h:Ms S k t l):l.length=k+1:=by
 induction h with
 | zero=>rfl
 | succ k m p m' ms h1 h2 h3 ih=>rw [List.length_cons,ih]
theorem ZGq {S:List Bt} {k t:Nat} {l:List Nat} (h:Ms S k t l):∀ {m:Nat} {ms:List Nat},l=m::ms→∀ i,m≤i→lnM l i=0:=by
 induction h with
 | zero m0 h0 =>
  intro m ms e i hi
  cases e
  simp [lnM];omega
 | succ k m0 p m' ms0 h1 h2 h3 ih =>
  intro m ms e i hi
  cases e
  have:=ih rfl i (by omega)
  unfold lnM at this ⊢
  rw [List.countP_cons,this,if_neg (by simp;omega)]
def ZrH (n:Nat) (f:Nat→Nat):Nat:=((List.range n).map f).sum
theorem Zjl {n:Nat} {f:Nat→Nat}:ZrH (n+1) f=ZrH n f+f n:=by simp [ZrH,List.range_succ]
theorem ZmE {n:Nat} {f g:Nat→Nat} (h:∀ i,i<n→f i=g i):ZrH n f=ZrH n g:=by
 induction n with
 | zero=>rfl
 | succ n ih=>rw [Zjl,Zjl,ih fun i hi=>h i (by omega),h n (by omega)]
theorem ZvX {n c:Nat} {f:Nat→Nat}:ZrH n (fun i=>c*f i)=c*ZrH n f:=by
 induction n with
 | zero=>rfl
 | succ n ih=>rw [Zjl,Zjl,ih,Nat.mul_add]
theorem ZoW {m n c:Nat} {f:Nat→Nat} (hmn:m≤n) (h:∀ i,m≤i→i<n→f i=c):ZrH n f=ZrH m f+(n-m)*c:=by
 induction n with
 | zero =>
  obtain rfl:m=0:=by omega
  simp
 | succ n ih =>
  by_cases e:m=n+1
  ·subst e;simp
  ·rw [Zjl,ih (by omega) fun i h1 h2=>h i h1 (by omega),h n (by omega) (by omega),show n+1-m=(n-m)+1 by omega,Nat.add_mul]
   omega
theorem ZDT {S:List Bt} {k t:Nat} {l:List Nat} (h:Ms S k t l):∀ {m:Nat} {ms:List Nat},l=m::ms→∀ n,m≤n→ZrH n (fun i=>2^(k+1-lnM l i))+2^k*t=2^(k+1)*n:=by
 induction h with
 | zero m0 h0 =>
  intro m ms e n hn
  cases e
  rw [ZoW hn (c:=2) fun i h1 _=>by simp [lnM,show ¬ i<m0 by omega]]
  rw [ZmE (g:=fun _=>1*1) fun i hi=>by simp [lnM,hi]]
  rw [ZvX]
  have:ZrH m0 (fun _=>1)=m0:=by
   have:=ZoW (m:=0) (n:=m0) (c:=1) (f:=fun _=>1) (Nat.zero_le _) fun _ _ _=>rfl
   rw [this];simp [ZrH]
  rw [this]
  simp only [Nat.zero_add,Nat.pow_zero,Nat.pow_one]
  omega
 | succ k m0 p m' ms0 h1 h2 h3 ih =>
  intro m ms e n hn
  cases e
  have hz:=ZGq (.succ k m0 p m' ms0 h1 h2 h3) rfl
  rw [ZoW hn (c:=2^(k+1+1)) fun i q _=>by rw [hz i q,Nat.sub_zero]]
  have e1:ZrH m0 (fun i=>2^(k+1+1-lnM (m0::m'::ms0) i))=ZrH m0 fun i=>2^(k+1-lnM (m'::ms0) i):=ZmE fun i hi=>by
   have hL:lnM (m'::ms0) i≤k+1:=by have:=ZA0 (ms:=m'::ms0) (i:=i);rw [Zs4 h3] at this;exact this
   have:lnM (m0::m'::ms0) i=lnM (m'::ms0) i+1:=by
    unfold lnM
    rw [List.countP_cons (a:=m0),if_pos (decide_eq_true hi)]
   rw [this,show k+1+1-(lnM (m'::ms0) i+1)=k+1-lnM (m'::ms0) i by omega]
  rw [e1]
  have hi:=ih rfl m0 h2
  have q1:2^(k+1)*(m0+p)=2^(k+1)*m0+2^k*(2*p):=by rw [Nat.mul_add,←Nat.mul_assoc,Nat.pow_succ]
  have q2:2^(k+1+1)*n=2^(k+1+1)*(n-m0)+2^(k+1+1)*m0:=by rw [←Nat.mul_add];congr 1;omega
  have q3:2^(k+1+1)*m0=2^(k+1)*m0+2^(k+1)*m0:=by rw [Nat.pow_succ 2 (k+1),Nat.mul_assoc,Nat.two_mul,Nat.mul_add]
  rw [Nat.mul_comm (n-m0)]
  omega
theorem ZGr {S:List Bt} {k:Nat} {m:Nat} {ms:List Nat} {n:Nat} (hn:2≤n) (h:Ms S k (2*n-2) (m::ms)) (hm:m=n):ZrH n (fun i=>2^(k+1-lnM (m::ms) i))=2^(k+1):=by
 have hk:=ZDT h rfl n (by omega)
 have e:2^(k+1)*n=2^k*(2*n-2)+2^(k+1):=by
  obtain ⟨j,rfl⟩:∃ j,n=j+1:=⟨n-1,by omega⟩
  rw [show 2*(j+1)-2=2*j by omega,Nat.mul_add,Nat.mul_one,Nat.pow_succ,Nat.mul_assoc]
 omega
def usB (cs:List Nat):List Nat:=(List.range cs.length).filter fun s=>decide (0<cs.getD s 0)
def sgB (cs:List Nat):List Bt:=(usB cs).map fun s=>(cs.getD s 0,[s])
def ZhH (cs:List Nat) (most:Nat):List Bt:=if (sgB cs).length<2 then sgB cs else (lvB (Zas (sgB cs)) (most-1)).take (2*(sgB cs).length-2)
def ZcU (cs:List Nat) (most:Nat):List Nat:=(List.range cs.length).map fun s=>Zie s (ZhH cs most)
theorem ZA2 {A:List Bt} {x:Bt}:(ZsX A x).Perm (x::A):=by
 have h:=List.takeWhile_append_dropWhile (p:=fun p:Bt=>decide (p.1≤x.1)) (l:=A)
 have:=List.perm_middle (a:=x) (l₁:=A.takeWhile fun p:Bt=>decide (p.1≤x.1)) (l₂:=A.dropWhile fun p:Bt=>decide (p.1≤x.1))
 rw [h] at this
 exact this
theorem Zqm:∀ {S A:List Bt},(S.foldl ZsX A).Perm (S++A)
 | [],_=>List.Perm.refl _
 | x::S,A=>by
  rw [List.foldl_cons]
  refine (Zqm (S:=S)).trans ?_
  refine (List.Perm.append_left S ZA2).trans ?_
  exact List.perm_middle
theorem Zyk {S:List Bt}:(Zas S).Perm S:=by
 have:=Zqm (S:=S) (A:=[])
 rw [List.append_nil] at this
 exact this
def ysB (cs:List Nat):List Nat:=(Zas (sgB cs)).map fun b=>b.2.headD 0
theorem ZuU {cs:List Nat}:(ysB cs).Perm (usB cs):=by
 have:=(Zyk (S:=sgB cs)).map fun b=>b.2.headD 0
 unfold ysB
 refine this.trans ?_
 rw [sgB,List.map_map]
 have e:((fun b:Bt=>b.2.headD 0)∘fun s=>(cs.getD s 0,[s]))=id:=rfl
 rw [e,List.map_id]
theorem ZiF {cs:List Nat} {s:Nat}:s∈usB cs↔s<cs.length∧0<cs.getD s 0:=by simp [usB]
theorem ZA3 {cs:List Nat} {s:Nat}:s∈ysB cs↔s<cs.length∧0<cs.getD s 0:=by rw [ZuU.mem_iff,ZiF]
theorem ZDU {cs:List Nat}:(ysB cs).Nodup:=ZuU.nodup_iff.2 (List.nodup_range.sublist List.filter_sublist)
theorem ZH8 {cs:List Nat}:Zas (sgB cs)=(ysB cs).map fun s=>(cs.getD s 0,[s]):=by
 unfold ysB
 rw [List.map_map]
 have:∀ b∈Zas (sgB cs),((fun s=>(cs.getD s 0,[s]))∘fun b:Bt=>b.2.headD 0) b=b:=by
  intro b hb
  rw [Zdh] at hb
  obtain ⟨s,-,rfl⟩:=List.mem_map.1 hb
  rfl
 rw [List.map_congr_left this,List.map_id']
theorem Zs5 {cs:List Nat}:(ysB cs).length=(sgB cs).length:=by rw [ysB,List.length_map,Zan]
theorem ZkP {cs:List Nat} {s:Nat}:∀ (l:List Nat),Zie s (l.map fun s=>(cs.getD s 0,[s]))=l.count s
 | []=>rfl
 | x::l=>by rw [List.map_cons,Ze0,ZkP l,List.count_cons];simp [List.count_cons];omega
theorem ZDV {cs:List Nat} {i m:Nat} (hi:i<(ysB cs).length):Zie (ysB cs)[i] ((Zas (sgB cs)).take m)=if i<m then 1 else 0:=by
 rw [ZH8,←List.map_take,ZkP]
 have hn:=ZDU (cs:=cs)
 generalize ysB cs=l at hi hn
 rw [(hn.sublist (List.take_sublist m l)).count]
 have:l[i]∈l.take m↔i<m:=by
  rw [List.mem_take_iff_getElem]
  constructor
  ·rintro ⟨j,hj,e⟩
   have hp:=List.pairwise_iff_getElem.1 hn
   have hj':j<l.length:=by omega
   rcases Nat.lt_trichotomy j i with q | q | q
   ·exact absurd e (hp j i hj' hi q)
   ·omega
   ·exact absurd e.symm (hp i j hi hj' q)
  ·intro h
   exact ⟨i,by omega,rfl⟩
 simp only [this]
theorem ZDW {cs:List Nat} {s m:Nat} (hs:s ∉ ysB cs):Zie s ((Zas (sgB cs)).take m)=0:=by
 rw [ZH8,←List.map_take,ZkP,List.count_eq_zero]
 exact fun h=>hs (List.mem_of_mem_take h)
theorem ZA4 {i:Nat}:∀ (ms:List Nat),(ms.map fun m=>if i<m then 1 else 0).sum=lnM ms i
 | []=>rfl
 | m::ms=>by
  rw [List.map_cons,List.sum_cons,ZA4 ms]
  unfold lnM
  rw [List.countP_cons]
  simp only [decide_eq_true_eq]
  omega
theorem ZvY:∀ {ms:List Nat} {f:Nat→Nat},(∀ m,f m=0)→(ms.map f).sum=0
 | [],_,_=>rfl
 | m::ms,f,h=>by rw [List.map_cons,List.sum_cons,h m,ZvY h]
theorem ZH9 {cs:List Nat}:∀ x∈Zas (sgB cs),0<x.1:=by
 intro x hx
 rw [Zdh] at hx
 obtain ⟨s,hs,rfl⟩:=List.mem_map.1 hx
 exact (ZiF.1 hs).2
theorem Zqn {cs:List Nat} {most:Nat} (h1:1≤most) (hn:2≤(sgB cs).length) (h2:(sgB cs).length≤2^most) :
  ∃ m ms,m=(sgB cs).length∧(m::ms).length=most∧(∀ i (h:i<(ysB cs).length),Zie (ysB cs)[i] (ZhH cs most)=lnM (m::ms) i)∧(∀ s,s ∉ ysB cs→Zie s (ZhH cs most)=0) ∧
   ZrH m (fun i=>2^(most-lnM (m::ms) i))=2^most:=by
 obtain ⟨k,rfl⟩:∃ k,most=k+1:=⟨most-1,by omega⟩
 have hb:ZhH cs (k+1)=(lvB (Zas (sgB cs)) k).take (2*(sgB cs).length-2):=by rw [ZhH,if_neg (by omega),Nat.add_sub_cancel]
 have hl:=ZAZ (S:=Zas (sgB cs)) k 2 (by rw [Zan,Nat.mul_comm,←Nat.pow_succ];exact h2)
 rw [Zan] at hl
 obtain ⟨m,ms,hMs,hc,-⟩:=ZH6 (ZcO _) ZH9 k _ hl
 have hm:m=(sgB cs).length:=by
  have a:=ZH7 hn hMs (Nat.le_refl _)
  have b:=ZH5 hMs rfl
  rw [Zan] at b
  omega
 refine ⟨m,ms,hm,by rw [Zs4 hMs],fun i hi=>?_,fun s hs=>?_,?_⟩
 ·rw [hb,hc,←ZA4]
  congr 1
  exact List.map_congr_left fun m _=>ZDV hi
 ·rw [hb,hc]
  exact ZvY fun m=>ZDW hs
 ·have:=ZGr hn hMs hm
  rw [hm] at this ⊢
  exact this
theorem ZA5:∀ (k:Nat) (l:List Bt),l.length / 2=k→prK l k=prs l
 | 0,[],_=>rfl
 | 0,[_],_=>by simp [prK,prs]
 | 0,_::_::_,h=>by simp only [List.length_cons] at h;omega
 | k+1,[],h=>by simp at h
 | k+1,[_],h=>by simp at h
 | k+1,x::y::r,h=>by
  have ih:=ZA5 k r (by simp only [List.length_cons] at h;omega)
  rw [prs,←ih]
  unfold prK
  rw [List.range_succ_eq_map,List.map_cons,List.map_map]
  congr 1
theorem ZuV:∀ {l:List Bt} {q:Bt},q∈prs l→∃ a∈l,∃ b∈l,q=(a.1+b.1,a.2++b.2)
 | [],q,h=>by simp [prs] at h
 | [_],q,h=>by simp [prs] at h
 | x::y::r,q,h=>by
  rw [prs,List.mem_cons] at h
  rcases h with rfl | h
  ·exact ⟨x,by simp,y,by simp,rfl⟩
  ·obtain ⟨a,ha,b,hb,e⟩:=ZuV h
   exact ⟨a,by simp [ha],b,by simp [hb],e⟩
theorem ZvZ {S:List Bt} (hs:∀ p∈S,p.1≤4294967296∧p.2.length=1):∀ (k:Nat),∀ x∈lvB S k,x.1≤4294967296*2^k∧1≤x.2.length∧x.2.length≤2^k
 | 0=>fun x hx=>by have:=hs x hx;simp only [Nat.pow_zero];omega
 | k+1=>fun x hx=>by
  rw [lvB,Zdh,List.mem_append] at hx
  have hp:1≤2^k:=Nat.one_le_two_pow
  rw [Nat.pow_succ]
  rcases hx with hx | hx
  ·have:=hs x hx
   omega
  ·obtain ⟨a,ha,b,hb,rfl⟩:=ZuV hx
   have h1:=ZvZ hs k a ha
   have h2:=ZvZ hs k b hb
   simp only [List.length_append]
   omega
theorem ZA6 {S:List Bt}:∀ (k:Nat),(lvB S k).length≤2*S.length
 | 0=>by simp only [lvB];omega
 | k+1=>by
  have:=ZA6 (S:=S) k
  rw [lvB,Zan,List.length_append,ZhG]
  omega
theorem ZIa {nl:Bool} {l:List Bt}:∀ n cells,AO.row n cells∈[AO.row nl (bC l)]→AV.gl.glL 1 cells:=by
 intro n cells h
 simp only [List.mem_singleton,AO.row.injEq] at h
 obtain ⟨-,rfl⟩:=h
 exact Zae _ _ ZmC
set_option maxRecDepth 100000 in
theorem Zgd [Tabs Tryz.prog] (l:List Bt) (N:Nat) (hN:N=l.length) (hl:N≤10000) :
  HCon Tryz.prog ZaE [.own 1000 0 (some 2) 0 N,Zdi] [.row false (bC l)] (.tup []) [(1000,0,.row false (bC (Zas l)))] (KS N+1):=by
 refine HCon.of' mix Tryz.func153 rfl Tryz.ntmps153 Zck Zcl (by simp) (by simp only [AV.gl.glL,AV.gl,Zdi,and_true];omega) ZsV ?_
 unfold Zbf
 have hc:=ZoV l N hN hl
 repeat (first | refine zS ?_ | exact zT)
 refine Zag [(1000,0)] 2000 hc (by simp) (by simp) ?_ ?_ ?_
 iterate 2 (case _=>(first | exact yU (ja2 @Zam @Zdi.eq_1) | refine yR (ja2 @Zam @Zdi.eq_1) ?_))
 repeat (first | refine zR (ja2 @Zam @ZaB) ?_ | exact zU (ja2 @Zam @ZaB))
 all_goals omega
theorem ZIS {S:List Bt}:lvB S 0=S:=rfl
theorem ZmF {ρ:Nat→Nat→Nat × Nat} {l:List Bt}:ren.renL ρ (l.map bA)=l.map bA:=Zbb ρ _ Zji
def Zyl (l:List Bt) (most:Nat):List Bt:=if l.length<2 then l else (lvB (Zas l) (most-1)).take (2*l.length-2)
def KC:Nat:=100+20*(KS 640+20)
theorem ZIb:1≤KC:=Nat.le_trans (by omega:1≤100) (Nat.le_add_right _ _)
theorem ZIc {n:Nat} (h:n≤640):KS n≤KS 640:=by
 unfold KS KM
 have h1:10*n*n≤10*640*640:=Nat.mul_le_mul (by omega) h
 have h2:10*n*n*(2*n+20)≤10*640*640*(2*640+20):=Nat.mul_le_mul h1 (by omega)
 omega
set_option maxHeartbeats 1000000 in
set_option maxRecDepth 100000 in
theorem ZoX [Tabs Tryz.prog] (l:List Bt) (n most:Nat) (hn:n=l.length) (hl:n≤320) (h1:1≤most) (h15:most≤15) (hbig:n≤2^most) (hs:∀ p∈l,p.1≤4294967296∧p.2.length=1) :
  HCon Tryz.prog Zi2 [.own 1000 0 (some 2) 0 n,int (most:Int)] [.row (nl0 n) (bC l)] (.sl (nl0 n) (some 2) ((Zyl l most).map bA)) [] KC:=by
 refine HCon.of' mix Tryz.func149 rfl Tryz.ntmps149 ZoD ZoE (by simp) (by simp only [AV.gl.glL,AV.gl,int,and_true];omega) ZIa ?_
 unfold Zjb
 have hbl:(bC l).length=n*2:=by rw [Za2,hn]
 have hbl2:(bC (Zas l)).length=n*2:=by rw [Za2,Zan,hn]
 have hch:∀ k:List Bt,chunks (some 2) k.length (bC k)=k.map bA:=fun k=>ZlM
 by_cases c:n<2
 ·have d:decide ((n:Int)<2)=true:=decide_eq_true (by omega)
  have dl:decide ((l.length:Int)<2)=true:=decide_eq_true (by omega)
  have hb:Zyl l most=l:=by rw [Zyl,if_pos (by omega)]
  rw [hb]
  have hcn:=hch l
  rw [←hn] at hcn
  iterate 2 (first | refine zS ?_ | exact zT)
  refine SWp.frzo 1000 0 (nl:=nl0 n) (cells:=bC l) (by (first | exact yT | refine yS ?_)) ZmC ?_
  refine SWp.le (Zau (N:=31) (gc:=1) (l:=[(0,.sl (nl0 n) (some 2) (l.map bA))]) (h:=[]) rfl ?_ ?_ ?_) ?_
  iterate 3 (case _=>(first | exact yU (ja3 fR @hcn @hbl) | refine yR (ja3 fR @hcn @hbl) ?_))
  repeat (first | refine zR (ja2 @d @dl) ?_ | exact zU (ja2 @d @dl))
  exact ZIb
 ·have d:decide ((n:Int)<2)=false:=decide_eq_false (by omega)
  have hn0:nl0 n=false:=Zcg (by omega)
  rw [hn0]
  have hc:=Zgd l n hn (by omega)
  have hcn:=hch (Zas l)
  rw [Zan,←hn] at hcn
  have hKS:=ZIc (n:=n) (by omega)
  obtain ⟨Q,hQ⟩:∃ Q,Q=KS 640:=⟨_,rfl⟩
  have hKC:KC=100+20*(Q+20):=by rw [hQ];rfl
  rw [←hQ] at hKS
  repeat (first | refine zR @d ?_ | exact zU @d)
  refine Zag [(1000,0)] 2000 hc (by simp) (by simp) ?_ ?_ ?_
  iterate 2 (case _=>(first | exact yU (ja2 @Zam @Zdi.eq_1) | refine yR (ja2 @Zam @Zdi.eq_1) ?_))
  obtain ⟨m1,hm1⟩:∃ m1,m1=most-1:=⟨_,rfl⟩
  have em:(most:Int)-1=(m1:Int):=by omega
  repeat (first | refine zR (ja2 @Zam @em) ?_ | exact zU (ja2 @Zam @em))
  refine SWp.le (Zau (N:=31) (gc:=Q+20) (l:=[(0,.own 1000 0 (some 2) 0 n),(5,.own 1000 0 (some 2) 0 n),(14,int (m1:Int)),(15,int 0)]) (h:=[(1000,0,.row false (bC (Zas l)))]) rfl ?_ ?_ ?_) ?_
  ·show 1+(KS n+1)≤Q+20
   omega
  iterate 2 (case _=>(first | exact yT | refine yS ?_))
  refine SWp.frzo 1000 0 (nl:=false) (cells:=bC (Zas l)) (by (first | exact yT | refine yS ?_)) ZmC ?_
  refine SWp.le (Zau (N:=31) (gc:=Q+20) (l:=[(0,.sl false (some 2) ((Zas l).map bA)),(5,.sl false (some 2) ((Zas l).map bA)),(14,int (m1:Int)),(15,int 0)]) (h:=[]) rfl ?_ ?_ ?_) ?_
  ·exact Nat.le_refl _
  iterate 2 (case _=>(first | exact yU (ja3 fR @hcn @hbl2) | refine yR (ja3 fR @hcn @hbl2) ?_))
  refine SWp.loop (α:=Nat) (fun k=>mk 31 (Q+20+k*(Q+20)) [(0,.sl false (some 2) ((Zas l).map bA)),(5,.sl false (some 2) ((lvB (Zas l) k).map bA)),(14,int (m1:Int)),(15,int (k:Int))] [])
   (fun k=>k≤m1) (fun k=>m1-k) 0 (Nat.zero_le _) (Zau rfl ?_ ?_ ?_) ?_
  ·show Q+20≤Q+20+0*(Q+20)
   omega
  iterate 2 (case _=>(first | exact yU @ZIS | refine yR @ZIS ?_))
  clear hc hcn hbl hbl2 hch
  intro k hk _
  by_cases ck:k<m1
  ·have dk:decide ((k:Int)<(m1:Int))=true:=decide_eq_true (by omega)
   have hlb:=ZvZ (S:=Zas l) (fun p hp=>hs p (Zdh.1 hp)) k
   have hlm:=ZA6 (S:=Zas l) k
   have hsl:(Zas l).length=n:=by rw [Zan,hn]
   rw [hsl] at hlm
   have hp2:2^k≤16384:=Nat.pow_le_pow_right (n:=2) (by omega) (show k≤14 by omega)
   have hnx:lvB (Zas l) (k+1)=Zas (Zas l++prs (lvB (Zas l) k)):=rfl
   obtain ⟨B,hBd⟩:∃ B,B=lvB (Zas l) k:=⟨_,rfl⟩
   rw [←hBd] at hlb hlm hnx
   have hpl:=ZhG B
   have cP:=Zs2 false B (by omega) (fun p hp=>by have:=hlb p hp;omega)
   rw [ZA5 _ _ rfl] at cP
   obtain ⟨N2,hN2⟩:∃ N2,N2=(Zas l).length+(prs B).length:=⟨_,rfl⟩
   have cC:=ZpG false (nl0 (B.length / 2)) (Zas l) (prs B) (by omega) (by omega) (by omega)
   rw [←hN2] at cC
   have cS:=Zgd (Zas l++prs B) N2 (by simp only [List.length_append];omega) (by omega)
   have hK2:=ZIc (n:=N2) (by omega)
   rw [←hQ] at hK2
   rw [←hBd]
   repeat (first | refine zR @dk ?_ | exact zU @dk)
   refine Zay _ (.inl ⟨by simp only [AV.free,AV.free.freeL,Zji,Bool.and_self],cP⟩) ?_
   repeat (first | refine zR @Zji ?_ | exact zU @Zji)
   refine Zag [] 3000 cC (by simp) (by simp) ?_ ?_ ?_
   iterate 2 (case _=>(first | exact yU @ZmF | refine yR @ZmF ?_))
   repeat (first | refine zR (ja2 @Zam @ZmF) ?_ | exact zU (ja2 @Zam @ZmF))
   refine Zag [(4022,Q+20+k*(Q+20)+4)] 5000 cS (by simp) (by simp) ?_ ?_ ?_
   iterate 2 (case _=>(first | exact yU (ja2 @Zam @Zdi.eq_1) | refine yR (ja2 @Zam @Zdi.eq_1) ?_))
   have hch2:chunks (some 2) N2 (bC (Zas (Zas l++prs B)))=(Zas (Zas l++prs B)).map bA:=by
    have:=ZlM (l:=Zas (Zas l++prs B))
    rw [Zan,List.length_append,←hN2] at this
    exact this
   have hbl3:(bC (Zas (Zas l++prs B))).length=N2*2:=by rw [Za2,Zan,List.length_append,hN2]
   have hkk:(k+1)*(Q+20)=k*(Q+20)+(Q+20):=Nat.succ_mul _ _
   change SWp _ _ _ _
   refine SWp.le (Zau (N:=31) (gc:=Q+20+(k+1)*(Q+20)) (l:=[(0,.sl false (some 2) ((Zas l).map bA)),(5,.own 4022 (Q+20+k*(Q+20)+4) (some 2) 0 N2),(14,int (m1:Int)),(15,int (k:Int))]) (h:=[(4022,Q+20+k*(Q+20)+4,.row false (bC (Zas (Zas l++prs B))))]) rfl ?_ ?_ ?_) ?_
   ·show Q+20+k*(Q+20)+5+(KS N2+1)≤_
    omega
   iterate 2 (case _=>(first | exact yU @Zam | refine yR @Zam ?_))
   refine SWp.frzo 4022 (Q+20+k*(Q+20)+4) (nl:=false) (cells:=bC (Zas (Zas l++prs B))) (by (first | exact yT | refine yS ?_)) ZmC ?_
   refine SWp.le (Zau (N:=31) (gc:=Q+20+(k+1)*(Q+20)) (l:=[(0,.sl false (some 2) ((Zas l).map bA)),(5,.sl false (some 2) ((Zas (Zas l++prs B)).map bA)),(14,int (m1:Int)),(15,int (k:Int))]) (h:=[]) rfl ?_ ?_ ?_) ?_
   ·exact Nat.le_refl _
   iterate 2 (case _=>(first | exact yU (ja3 fR @hch2 @hbl3) | refine yR (ja3 fR @hch2 @hbl3) ?_))
   repeat (first | refine zS ?_ | exact zT)
   refine At.of (k+1) (by omega) (by omega) rfl rfl (Nat.le_refl _) ?_ ?_
   iterate 2 (case _=>(first | exact yU @hnx | refine yR @hnx ?_))
  ·have dk:decide ((k:Int)<(m1:Int))=false:=decide_eq_false (by omega)
   obtain rfl:k=m1:=by omega
   have hsl:(Zas l).length=n:=by rw [Zan,hn]
   have hlen:=ZAZ (S:=Zas l) k 2 (by
    have:2*2^k=2^most:=by rw [show most=k+1 by omega,Nat.pow_succ,Nat.mul_comm]
    rw [hsl];omega)
   rw [hsl] at hlen
   have hbe:Zyl l most=(lvB (Zas l) k).take (2*n-2):=by rw [Zyl,if_neg (by omega),←hm1,←hn]
   obtain ⟨n2,hn2⟩:∃ n2,n2=2*n:=⟨_,rfl⟩
   obtain ⟨t,ht⟩:∃ t,t=2*n-2:=⟨_,rfl⟩
   have e1:2*(n:Int)=(n2:Int):=by omega
   have e2:(n2:Int)-2=(t:Int):=by omega
   rw [hbe,←ht]
   rw [←ht] at hlen
   repeat (first | refine zR (ja4 @dk @hsl @e1 @e2) ?_ | exact zU (ja4 @dk @hsl @e1 @e2))
   have hkk:k*(Q+20)≤15*(Q+20):=Nat.mul_le_mul_right _ (by omega)
   exact ⟨List.map_take.symm,by rw [hKC];omega⟩
def bdC (x:Int):Bool:=decide (x<0) || decide (4294967296<x)
def Zjm (cs:List Int):Nat:=cs.countP fun x=>decide (0<x)
def Zv0 (cs:List Int) (most:Int):Nat:=if most<1∨15<most then 1 else if 320<cs.length then 4 else if cs.any bdC=true then 1 else if 2^most.toNat<Zjm cs then 4 else 0
theorem Zym {cs:List Int} {k:Nat} (h:k<cs.length):Zjm (cs.take (k+1))=Zjm (cs.take k)+if 0<cs[k] then 1 else 0:=by
 unfold Zjm
 rw [List.take_succ_eq_append_getElem h,List.countP_append]
 simp [List.countP_cons]
theorem Zv1 {cs:List Int}:Zjm cs≤cs.length:=List.countP_le_length
def sgP (c:List Nat) (k:Nat):List Bt:=((List.range k).filter fun s=>decide (0<c.getD s 0)).map fun s=>(c.getD s 0,[s])
theorem ZGs {c:List Nat}:sgP c c.length=sgB c:=rfl
theorem ZA7 {c:List Nat} {k:Nat} (h:0<c.getD k 0):sgP c (k+1)=sgP c k++[(c.getD k 0,[k])]:=by
 simp only [sgP,List.range_succ,List.filter_append,List.map_append]
 rw [List.filter_cons_of_pos (by simpa using h)]
 rfl
theorem ZA8 {c:List Nat} {k:Nat} (h:¬ 0<c.getD k 0):sgP c (k+1)=sgP c k:=by
 simp only [sgP,List.range_succ,List.filter_append,List.map_append]
 rw [List.filter_cons_of_neg (by simpa using h)]
 simp
theorem ZA9 {cs:List Int}:∀ {k:Nat},k≤cs.length→(sgP (cs.map Int.toNat) k).length=Zjm (cs.take k)
 | 0,_=>rfl
 | k+1,h=>by
  have hk:k<cs.length:=by omega
  have ih:=ZA9 (cs:=cs) (k:=k) (by omega)
  have hg:(cs.map Int.toNat).getD k 0=cs[k].toNat:=by simp [List.getD,hk]
  have hu:Zjm (cs.take (k+1))=Zjm (cs.take k)+if 0<cs[k] then 1 else 0:=by
   unfold Zjm
   rw [List.take_succ_eq_append_getElem hk,List.countP_append]
   simp [List.countP_cons]
  rw [hu]
  by_cases c:0<cs[k]
  ·rw [ZA7 (by rw [hg];omega),List.length_append,ih,if_pos c];rfl
  ·rw [ZA8 (by rw [hg];omega),ih,if_neg c];rfl
theorem Zv2 {c:List Nat} {k:Nat} (hc:∀ x∈c,x≤4294967296):∀ p∈sgP c k,p.1≤4294967296∧p.2.length=1:=by
 intro p hp
 obtain ⟨s,hs,rfl⟩:=List.mem_map.1 hp
 refine ⟨?_,rfl⟩
 simp only [List.mem_filter,decide_eq_true_eq] at hs
 simp only
 by_cases q:s<c.length
 ·rw [List.getD_eq_getElem?_getD,List.getElem?_eq_getElem q];exact hc _ (List.getElem_mem _)
 ·rw [List.getD_eq_getElem?_getD,List.getElem?_eq_none (by omega)] at hs
  simp at hs
theorem Zv3 {n t:Nat} {f:Nat→Nat} (ht:t<n):((List.range n).map f).set t (f t+1)=(List.range n).map fun s=>f s+if s=t then 1 else 0:=by
 refine List.ext_getElem (by simp) fun i h1 h2=>?_
 simp only [List.length_map,List.length_range] at h2
 rw [List.getElem_set]
 simp only [List.getElem_map,List.getElem_range]
 by_cases e:t=i
 ·subst e;simp
 ·rw [if_neg e,if_neg (by omega)];rfl
def ZBa (cs:List Int) (most:Int):AV:=if Zv0 cs most≠0 then .tup [.sc (.slice none 0 0),int (Zv0 cs most:Int)] else .tup [.sl false none ((ZcU (cs.map Int.toNat) most.toNat).map nA),int 0]
theorem ZBb {cs:List Int} {most:Int}:(ZBa cs most).free=true:=by
 unfold ZBa
 split
 ·rfl
 ·simp only [AV.free,AV.free.freeL,Zab,int,Bool.and_self]
theorem ZGt {l:List Bt} {x s:Nat}:bC l++[.sc (.int .i64 (x:Int)),.sl false none [nA s]]=bC (l++[(x,[s])]):=by rw [←ZlL];rfl
theorem ZBc {s B:Nat}:∀ {L:List Bt},(∀ x∈L,x.2.length≤B)→Zie s L≤L.length*B
 | [],_=>by simp [ZlN]
 | x::L,h=>by
  have h1:=h x (by simp)
  have h2:x.2.count s≤x.2.length:=List.count_le_length
  have ih:=ZBc (s:=s) (L:=L) fun y hy=>h y (by simp [hy])
  rw [Ze0,List.length_cons,Nat.succ_mul]
  omega
theorem ZBd {S:List Bt} {P:Nat→Prop} (h:∀ x∈S,∀ t∈x.2,P t):∀ (k:Nat),∀ x∈lvB S k,∀ t∈x.2,P t
 | 0=>h
 | k+1=>fun x hx t ht=>by
  rw [lvB,Zdh,List.mem_append] at hx
  rcases hx with hx | hx
  ·exact h x hx t ht
  ·obtain ⟨a,ha,b,hb,rfl⟩:=ZuV hx
   rcases List.mem_append.1 ht with ht | ht
   ·exact ZBd h k a ha t ht
   ·exact ZBd h k b hb t ht
theorem Zyn {c:List Nat} {q:Nat} (hc:c.length≤320) (hc32:∀ x∈c,x≤4294967296) (hq:q≤15):(ZhH c q).length≤640∧∀ x∈ZhH c q,x.2.length≤16384∧∀ t∈x.2,t<c.length:=by
 have hS:∀ x∈sgB c,∀ t∈x.2,t<c.length:=fun x hx t ht=>by
  obtain ⟨s,hs,rfl⟩:=List.mem_map.1 hx
  simp only [List.mem_singleton] at ht
  subst ht
  exact (ZiF.1 hs).1
 have h1:=Zv2 (c:=c) (k:=c.length) hc32
 rw [ZGs] at h1
 have hl:(sgB c).length≤c.length:=by
  rw [sgB,List.length_map]
  exact Nat.le_trans (List.length_filter_le _ _) (by simp)
 unfold ZhH
 split
 ·exact ⟨by omega,fun x hx=>⟨by have:=(h1 x hx).2;omega,hS x hx⟩⟩
 ·have hm:=ZA6 (S:=Zas (sgB c)) (q-1)
  rw [Zan] at hm
  refine ⟨by rw [List.length_take];omega,fun x hx=>?_⟩
  have hx:=List.mem_of_mem_take hx
  have hb:=ZvZ (S:=Zas (sgB c)) (fun p hp=>h1 p (Zdh.1 hp)) (q-1) x hx
  have hp2:2^(q-1)≤16384:=Nat.pow_le_pow_right (n:=2) (by omega) (show q-1≤14 by omega)
  exact ⟨by omega,ZBd (S:=Zas (sgB c)) (P:=fun t=>t<c.length) (fun y hy=>hS y (Zdh.1 hy)) _ x hx⟩
set_option maxHeartbeats 1000000 in
set_option maxRecDepth 100000 in
theorem ZpH [Tabs Tryz.prog] (nl:Bool) (cs:List Int) (most:Int):Con Tryz.prog Zkb [.sl nl none (cs.map int),int most] (ZBa cs most):=by
 refine Con.of' mix Tryz.func130 rfl Tryz.ntmps130 Zpu Zpv (by simp) (by simp only [AV.free,AV.free.freeL,Zib,int,Bool.and_self]) ZBb ?_
 unfold Zke
 by_cases c1:most<1
 ·have d1:=decide_eq_true c1
  have hb:Zv0 cs most=1:=by rw [Zv0,if_pos (.inl c1)]
  rw [ZBa,hb,if_pos (by simp)]
  repeat (first | refine zR @d1 ?_ | exact zU @d1)
 have d1:=decide_eq_false c1
 by_cases c2:15<most
 ·have d2:=decide_eq_true c2
  have hb:Zv0 cs most=1:=by rw [Zv0,if_pos (.inr c2)]
  rw [ZBa,hb,if_pos (by simp)]
  repeat (first | refine zR (ja2 @d1 @d2) ?_ | exact zU (ja2 @d1 @d2))
 have d2:=decide_eq_false c2
 by_cases c3:320<cs.length
 ·have d3:decide ((320:Int)<(cs.length:Int))=true:=decide_eq_true (by omega)
  have hb:Zv0 cs most=4:=by rw [Zv0,if_neg (by omega),if_pos c3]
  rw [ZBa,hb,if_pos (by simp)]
  repeat (first | refine zR (ja4 @d1 @d2 @d3 @List.length_map.{0,0}) ?_ | exact zU (ja4 @d1 @d2 @d3 @List.length_map.{0,0}))
 have d3:decide ((320:Int)<(cs.length:Int))=false:=decide_eq_false (by omega)
 obtain ⟨q,rfl⟩:∃ q:Nat,most=(q:Int):=⟨most.toNat,by omega⟩
 have hbE:Zv0 cs (q:Int)=if cs.any bdC=true then 1 else if 2^q<Zjm cs then 4 else 0:=by rw [Zv0,if_neg (by omega),if_neg c3,Int.toNat_natCast]
 obtain ⟨G,hG⟩:∃ G,G=ZBa cs (q:Int):=⟨_,rfl⟩
 have hG1:cs.any bdC=true→G = .tup [.sc (.slice none 0 0),int 1]:=fun h=>by rw [hG,ZBa,hbE,if_pos h,if_pos (by simp)];rfl
 rw [←hG]
 obtain ⟨c,hc⟩:∃ c,c=cs.map Int.toNat:=⟨_,rfl⟩
 obtain ⟨M,hM⟩:∃ M,M=cs.length:=⟨_,rfl⟩
 rw [←hM] at d3 c3
 iterate 14 (first | refine zR (ja5 @d1 @d2 @d3 @List.length_map.{0,0} hM.symm) ?_ | exact zU (ja5 @d1 @d2 @d3 @List.length_map.{0,0} hM.symm))
 refine SWp.adopt 6 (some 2) (by (first | exact yT | refine yS ?_)) ?_
 repeat (first | refine zR (ja2 @List.length_map.{0,0} hM.symm) ?_ | exact zU (ja2 @List.length_map.{0,0} hM.symm))
 refine SWp.loop (α:=Nat × Nat × Nat) (fun x=>mk 78 x.2.2 [(0,.sl nl none (cs.map int)),(1,int (q:Int)),(6,.own 6 x.2.1 (some 2) 0 (Zjm (cs.take x.1))),(23,.sl nl none (cs.map int)),(24,int (M:Int)),(25,int (x.1:Int))] [(6,x.2.1,.row (nl0 (Zjm (cs.take x.1))) (bC (sgP c x.1)))])
  (fun x=>x.1≤M∧(cs.take x.1).any bdC=false∧x.2.2≤1+x.1) (fun x=>M-x.1) (0,0,1) ⟨Nat.zero_le _,by simp,by simp⟩ (Zau rfl ?_ ?_ ?_) ?_
 ·exact Nat.le_refl _
 ·simp (disch:=omega) only [wP,wZ,so,sm,sg,sn,undef,seval,if_pos,if_neg,ZaZ,frz,AV.flat,↓reduceIte,ne_eq,reduceCtorEq,ByteArray.size,show Zjm (cs.take 0)=0 from rfl,show Zjm []=0 from rfl]
  try rfl
 ·simp (disch:=omega) only [wP,wZ,so,sm,sg,sn,undef,seval,if_pos,if_neg,ZaZ,frz,AV.flat,↓reduceIte,ne_eq,reduceCtorEq,ByteArray.size,show Zjm (cs.take 0)=0 from rfl,show Zjm []=0 from rfl,Zbw]
  try rfl
 rintro ⟨k,g,gc⟩ ⟨hk,hany,hgc⟩ -
 simp only at hk hany hgc
 obtain ⟨u,hu⟩:∃ u,u=Zjm (cs.take k):=⟨_,rfl⟩
 have hul:u≤k:=by rw [hu];exact Nat.le_trans Zv1 (by rw [List.length_take];omega)
 have hsl:(sgP c k).length=u:=by rw [hc,hu];exact ZA9 (by omega)
 have hbl:(bC (sgP c k)).length=u*2:=by rw [Za2,hsl]
 simp only [←hu]
 by_cases ck:k<M
 ·have dk:decide ((k:Int)<(M:Int))=true:=decide_eq_true (by omega)
  have ck':k<cs.length:=by omega
  obtain ⟨x,hx⟩:∃ x,x=cs[k]:=⟨_,rfl⟩
  have hg:(cs.map int).getD k .junk = .sc (.int .i64 x):=by rw [hx];simp [List.getD,ck',int]
  have hcg:c.getD k 0=x.toNat:=by rw [hc,hx];simp [List.getD,ck']
  have hus:=Zym ck'
  rw [←hu,←hx] at hus
  have htk:(cs.take (k+1)).any bdC=bdC x:=by rw [List.take_succ_eq_append_getElem ck',List.any_append,hany,←hx];simp
  have hmem:bdC x=true→cs.any bdC=true:=fun h=>by
   rw [List.any_eq_true]
   exact ⟨x,by rw [hx];exact List.getElem_mem _,h⟩
  by_cases c4:x<0
  ·have d4:=decide_eq_true c4
   rw [hG1 (hmem (by unfold bdC;rw [d4];rfl))]
   repeat (first | refine zR (ja5 @dk @List.length_map.{0,0} hM.symm @hg @d4) ?_ | exact zU (ja5 @dk @List.length_map.{0,0} hM.symm @hg @d4))
  have d4:=decide_eq_false c4
  by_cases c5:4294967296<x
  ·have d5:=decide_eq_true c5
   rw [hG1 (hmem (by unfold bdC;rw [d5,Bool.or_true]))]
   repeat (first | refine zR (ja6 @dk @List.length_map.{0,0} hM.symm @hg @d4 @d5) ?_ | exact zU (ja6 @dk @List.length_map.{0,0} hM.symm @hg @d4 @d5))
  have d5:=decide_eq_false c5
  have hb:bdC x=false:=by unfold bdC;rw [d4,d5];rfl
  by_cases c6:0<x
  ·have d6:=decide_eq_true c6
   rw [if_pos c6] at hus
   have hsg:=ZA7 (c:=c) (k:=k) (by rw [hcg];omega)
   obtain ⟨z,rfl⟩:∃ z:Nat,x=(z:Int):=⟨x.toNat,by omega⟩
   rw [hcg,Int.toNat_natCast] at hsg
   have hcells:bC (sgP c k)++[.sc (.int .i64 (z:Int)),.sl false none [.sc (.int .i64 (k:Int))]]=bC (sgP c (k+1)):=by rw [hsg];exact ZGt
   have hfl:List.flatMap (fun x=>(Zaq x).getD []) [AV.agg [AV.sc (Value.int IntKind.i64 (z:Int)),AV.sl false none [AV.sc (.int .i64 (k:Int))]]]=[.sc (.int .i64 (z:Int)),.sl false none [.sc (.int .i64 (k:Int))]]:=rfl
   repeat (first | refine zR (ja7 @dk @List.length_map.{0,0} hM.symm @hg @d4 @d5 @d6) ?_ | exact zU (ja7 @dk @List.length_map.{0,0} hM.symm @hg @d4 @d5 @d6))
   refine ⟨⟨_,rfl,rfl⟩,⟨fun w hw=>⟨_,List.mem_singleton.1 hw⟩,hbl.symm,by omega,by omega⟩,?_⟩
   repeat (first | refine zR (ja2 @hfl @hcells) ?_ | exact zU (ja2 @hfl @hcells))
   refine At.of (k+1,gc,gc+1) ⟨by simp only;omega,by simp only;rw [htk,hb],by simp only;omega⟩ (by simp only;omega) rfl rfl (Nat.le_refl _) ?_ ?_
   ·(first | exact yU @hus | refine yR @hus ?_)
    try omega
   ·(first | exact yU (ja2 @hus @Zgn) | refine yR (ja2 @hus @Zgn) ?_)
  ·have d6:=decide_eq_false c6
   rw [if_neg c6,Nat.add_zero] at hus
   have hsg:=ZA8 (c:=c) (k:=k) (by rw [hcg];omega)
   repeat (first | refine zR (ja7 @dk @List.length_map.{0,0} hM.symm @hg @d4 @d5 @d6) ?_ | exact zU (ja7 @dk @List.length_map.{0,0} hM.symm @hg @d4 @d5 @d6))
   refine At.of (k+1,g,gc) ⟨by simp only;omega,by simp only;rw [htk,hb],by simp only;omega⟩ (by simp only;omega) rfl rfl (Nat.le_refl _) ?_ ?_
   iterate 2 (case _=>(first | exact yU (ja2 @hus @hsg) | refine yR (ja2 @hus @hsg) ?_))
 ·have dk:decide ((k:Int)<(M:Int))=false:=decide_eq_false (by omega)
  obtain rfl:k=M:=by omega
  rw [hM,List.take_length] at hany hu
  have hq:2^q≤32768:=Nat.pow_le_pow_right (n:=2) (by omega) (show q≤15 by omega)
  by_cases c7:2^q<u
  ·have d7:decide (((1*2^q:Nat):Int)<(u:Int))=true:=decide_eq_true (Int.ofNat_lt.2 (by omega))
   have hGe:G = .tup [.sc (.slice none 0 0),int 4]:=by
    have hb:Zv0 cs (q:Int)=4:=by rw [hbE,if_neg (by rw [hany];simp),if_pos (by rw [←hu];exact c7)]
    rw [hG,ZBa,hb,if_pos (by simp)];rfl
   rw [hGe]
   repeat (first | refine zR (ja4 @dk @List.length_map.{0,0} hM.symm @d7) ?_ | exact zU (ja4 @dk @List.length_map.{0,0} hM.symm @d7))
  ·have d7:decide (((1*2^q:Nat):Int)<(u:Int))=false:=decide_eq_false (fun h=>c7 (by have:=Int.ofNat_lt.1 h;omega))
   have hGe:G = .tup [.sl false none ((ZcU c q).map nA),int 0]:=by
    have hb:Zv0 cs (q:Int)=0:=by rw [hbE,if_neg (by rw [hany];simp),if_neg (by rw [←hu];exact c7)]
    rw [hG,ZBa,hb,if_neg (by simp),Int.toNat_natCast,←hc]
   rw [hGe]
   have hcl:c.length=k:=by rw [hc,List.length_map,hM]
   have hc32:∀ x∈c,x≤4294967296:=fun x hx=>by
    rw [hc] at hx
    obtain ⟨y,hy,rfl⟩:=List.mem_map.1 hx
    rw [List.any_eq_false] at hany
    have:=hany y hy
    simp only [bdC,Bool.or_eq_true,decide_eq_true_eq] at this
    omega
   have hch:=ZoX (sgP c k) u q hsl.symm (by omega) (by omega) (by omega) (by omega) (Zv2 hc32)
   have hbs:Zyl (sgP c k) q=ZhH c q:=by rw [←hcl];rfl
   rw [hbs] at hch
   repeat (first | refine zR (ja4 @dk @List.length_map.{0,0} hM.symm @d7) ?_ | exact zU (ja4 @dk @List.length_map.{0,0} hM.symm @d7))
   refine Zag [(6,g)] 1000 hch (by simp) (by simp) ?_ ?_ ?_
   iterate 2 (case _=>(first | exact yU @Zam | refine yR @Zam ?_))
   obtain ⟨hBn,hBe⟩:=Zyn (c:=c) (q:=q) (by omega) hc32 (by omega)
   rw [hcl] at hBe
   have hlens:ZcU c q=(List.range k).map fun s=>Zie s (ZhH c q):=by rw [ZcU,hcl]
   rw [hlens]
   clear hch hbs hlens
   obtain ⟨Bs,hBs⟩:∃ Bs,Bs=ZhH c q:=⟨_,rfl⟩
   rw [←hBs] at hBn hBe
   rw [←hBs]
   repeat (first | refine zR (ja2 @ZmF @List.length_map.{0,0}) ?_ | exact zU (ja2 @ZmF @List.length_map.{0,0}))
   refine SWp.loop (α:=Nat × List Nat) (fun x=>mk 78 (gc+1+KC+x.1) [(9,.own 53 gc none 0 k),(56,.sl (nl0 u) (some 2) (Bs.map bA)),(57,int (Bs.length:Int)),(58,int (x.1:Int))] [(53,gc,.row false (x.2.map nA))])
    (fun x=>x.1≤Bs.length∧x.2=(List.range k).map fun s=>Zie s (Bs.take x.1)) (fun x=>Bs.length-x.1) (0,List.replicate k 0) ⟨Nat.zero_le _,?_⟩ (Zau rfl ?_ ?_ ?_) ?_
   ·simp only [List.take_zero,ZlN]
    refine List.ext_getElem (by simp) fun i h1 h2=>by simp
   ·simp only;omega
   ·(first | exact yT | refine yS ?_)
   ·(first | exact yT | refine yS ?_)
    simp
    exact .inr rfl
   rintro ⟨j,l⟩ ⟨hj,hlf⟩ -
   simp only at hj hlf
   have hll:l.length=k:=by rw [hlf];simp
   by_cases cj:j<Bs.length
   ·have dj:decide ((j:Int)<(Bs.length:Int))=true:=decide_eq_true (by omega)
    obtain ⟨p,hp⟩:∃ p,p=Bs.getD j (0,[]):=⟨_,rfl⟩
    have hpg:p=Bs[j]:=by rw [hp];simp [List.getD,cj]
    have hpm:p∈Bs:=by rw [hpg];exact List.getElem_mem _
    obtain ⟨hp1,hp2⟩:=hBe p hpm
    have eb:(Bs.map bA).getD j .junk = .agg [.sc (.int .i64 (p.1:Int)),.sl false none (p.2.map nA)]:=by rw [hp];exact ZuT cj
    have htj:Bs.take (j+1)=Bs.take j++[p]:=by rw [List.take_succ_eq_append_getElem cj,hpg]
    have hcb:∀ s,Zie s (Bs.take j)≤640*16384:=fun s=>Nat.le_trans (ZBc (B:=16384) fun x hx=>(hBe x (List.mem_of_mem_take hx)).1) (Nat.mul_le_mul_right _ (by rw [List.length_take];omega))
    repeat (first | refine zR (ja3 @dj @eb @List.length_map.{0,0}) ?_ | exact zU (ja3 @dj @eb @List.length_map.{0,0}))
    refine SWp.loop (α:=Nat × List Nat) (fun x=>mk 78 (gc+1+KC+j+1) [(9,.own 53 gc none 0 k),(56,.sl (nl0 u) (some 2) (Bs.map bA)),(57,int (Bs.length:Int)),(58,int (j:Int)),(63,.sl false none (p.2.map nA)),(64,int (p.2.length:Int)),(65,int (x.1:Int))] [(53,gc,.row false (x.2.map nA))])
     (fun x=>x.1≤p.2.length∧x.2=(List.range k).map fun s=>Zie s (Bs.take j)+(p.2.take x.1).count s) (fun x=>p.2.length-x.1) (0,l) ⟨Nat.zero_le _,by simp [hlf]⟩ (Zau rfl ?_ ?_ ?_) ?_
    ·exact Nat.le_refl _
    iterate 2 (case _=>(first | exact yT | refine yS ?_))
    rintro ⟨i,m⟩ ⟨hi,hmf⟩ -
    simp only at hi hmf
    have hml:m.length=k:=by rw [hmf];simp
    by_cases ci:i<p.2.length
    ·have di:decide ((i:Int)<(p.2.length:Int))=true:=decide_eq_true (by omega)
     obtain ⟨t,ht⟩:∃ t,t=p.2.getD i 0:=⟨_,rfl⟩
     have htg:t=p.2[i]:=by rw [ht];simp [List.getD,ci]
     have htk:t<k:=hp2 t (by rw [htg];exact List.getElem_mem _)
     have e1:(p.2.map nA).getD i .junk = .sc (.int .i64 (t:Int)):=by rw [ht];exact Zcm ci
     obtain ⟨v,hv⟩:∃ v,v=m.getD t 0:=⟨_,rfl⟩
     have e2:(m.map nA).getD t .junk = .sc (.int .i64 (v:Int)):=by rw [hv];exact Zcm (by omega)
     have hvf:v=Zie t (Bs.take j)+(p.2.take i).count t:=by rw [hv,hmf];simp [List.getD,htk]
     have hvb:v≤20000000:=by
      have a:=hcb t
      have b:(p.2.take i).count t≤(p.2.take i).length:=List.count_le_length
      rw [List.length_take] at b
      omega
     obtain ⟨v1,hv1⟩:∃ v1,v1=v+1:=⟨_,rfl⟩
     have hev:(v:Int)+1=(v1:Int):=by omega
     have hsp:=Zcq (l:=m) (k:=t) (x:=v1) (by omega)
     have hnx:m.set t v1=(List.range k).map fun s=>Zie s (Bs.take j)+(p.2.take (i+1)).count s:=by
      rw [hmf,hv1,hvf,Zv3 (f:=fun s=>Zie s (Bs.take j)+(p.2.take i).count s) htk]
      refine List.map_congr_left fun s _=>?_
      rw [List.take_succ_eq_append_getElem ci,List.count_append,←htg,List.count_singleton]
      simp only [beq_iff_eq]
      by_cases e:s=t
      ·subst e;simp;omega
      ·rw [if_neg e,if_neg (by omega)];omega
     repeat (first | refine zR (ja7 @di @e1 @e2 @hev @hml @List.length_map.{0,0} @hsp) ?_ | exact zU (ja7 @di @e1 @e2 @hev @hml @List.length_map.{0,0} @hsp))
     refine At.of (i+1,m.set t v1) ⟨by simp only;omega,hnx⟩ (by simp only;omega) rfl rfl (Nat.le_refl _) ?_ ?_
     ·(first | exact yT | refine yS ?_)
     ·(first | exact yT | refine yS ?_)
      rw [Zf9,Zg0]
      exact hsp
    ·have di:decide ((i:Int)<(p.2.length:Int))=false:=decide_eq_false (by omega)
     repeat (first | refine zR @di ?_ | exact zU @di)
     refine At.of (j+1,m) ⟨by simp only;omega,?_⟩ (by simp only;omega) rfl rfl (Nat.le_refl _) ?_ ?_
     ·simp only
      rw [hmf,show i=p.2.length by omega,List.take_length,htj]
      refine List.map_congr_left fun s _=>?_
      rw [Zif,Ze0,ZlN,Nat.add_zero]
     iterate 2 (case _=>(first | exact yT | refine yS ?_))
   ·have dj:decide ((j:Int)<(Bs.length:Int))=false:=decide_eq_false (by omega)
    rw [show j=Bs.length by omega,List.take_length] at hlf
    rw [←hlf]
    repeat (first | refine zR (ja3 @dj @hll iR) ?_ | exact zU (ja3 @dj @hll iR))
theorem ZoY {f:Nat→Nat}:∀ (l:List Nat),ZaA (l.map f)=(l.map fun s=>wt (f s)).sum
 | []=>rfl
 | x::l=>by rw [List.map_cons,ZaA,ZoY l,List.map_cons,List.sum_cons]
theorem ZjF {p:Nat→Bool} {F:Nat→Nat} (h:∀ s,p s=false→F s=0):∀ (l:List Nat),(l.map F).sum=((l.filter p).map F).sum
 | []=>rfl
 | x::l=>by
  rw [List.map_cons,List.sum_cons,ZjF h l,List.filter_cons]
  cases q:p x with
  | true=>simp
  | false=>rw [h x q];simp
theorem ZId {F:Nat→Nat} (l:List Nat):(l.map F).sum=ZrH l.length fun i=>F (l.getD i 0):=by
 have e:l.map F=(List.range l.length).map fun i=>F (l.getD i 0):=by
  refine List.ext_getElem (by simp) fun i h1 h2=>?_
  have:i<l.length:=by simpa using h1
  simp [List.getD,this]
 rw [ZrH,←e]
theorem ZIe {n:Nat} (h:1≤n) (h2:n≤15):wt n=2^(15-n):=by
 rw [wt,if_neg (by omega),show 32768=2^15 from rfl,Nat.pow_div h2 (by omega)]
theorem ZBe {cs:List Nat} {most s:Nat} (hs:s<cs.length):(ZcU cs most).getD s 0=Zie s (ZhH cs most):=by
 simp [ZcU,List.getD,hs]
theorem Zcn {cs:List Nat} {most:Nat}:(ZcU cs most).length=cs.length:=by simp [ZcU]
theorem ZlO {cs:List Nat} {most:Nat} (h1:1≤most) (h2:(sgB cs).length≤2^most) {s:Nat} (hs:s<cs.length) :
  (ZcU cs most).getD s 0≤most∧(0<(ZcU cs most).getD s 0↔0<cs.getD s 0):=by
 rw [ZBe hs]
 by_cases hn:2≤(sgB cs).length
 ·obtain ⟨m,ms,hm,hL,hi,hz,-⟩:=Zqn h1 hn h2
  by_cases c:s∈ysB cs
  ·obtain ⟨i,hi2,rfl⟩:=List.mem_iff_getElem.1 c
   rw [hi i hi2]
   have a:=ZA0 (ms:=m::ms) (i:=i)
   have b:=ZA1 (m:=m) (ms:=ms) (i:=i) (by rw [hm,←Zs5];exact hi2)
   have d:=(ZA3.1 c).2
   exact ⟨by omega,⟨fun _=>d,fun _=>by omega⟩⟩
  ·rw [hz s c]
   have d:¬ 0<cs.getD s 0:=fun q=>c (ZA3.2 ⟨hs,q⟩)
   exact ⟨by omega,⟨fun q=>by omega,fun q=>absurd q d⟩⟩
 ·have hb:ZhH cs most=sgB cs:=by rw [ZhH,if_pos (by omega)]
  have hc:Zie s (sgB cs)=if s∈usB cs then 1 else 0:=by
   rw [sgB,ZkP]
   exact (List.nodup_range.sublist List.filter_sublist:(usB cs).Nodup).count
  rw [hb,hc]
  by_cases c:s∈usB cs
  ·rw [if_pos c];exact ⟨h1,⟨fun _=>(ZiF.1 c).2,fun _=>by omega⟩⟩
  ·rw [if_neg c];exact ⟨by omega,⟨fun q=>by omega,fun q=>absurd (ZiF.2 ⟨hs,q⟩) c⟩⟩
theorem ZDX {cs:List Nat} {most:Nat} (hn:(sgB cs).length<2) {s:Nat} (hs:s<cs.length):(ZcU cs most).getD s 0≤1:=by
 rw [ZBe hs,ZhH,if_pos hn,sgB,ZkP,(List.nodup_range.sublist List.filter_sublist:(usB cs).Nodup).count]
 split <;> omega
theorem ZlP {cs:List Nat} {most:Nat} (h1:1≤most) (h15:most≤15) (hn:2≤(sgB cs).length) (h2:(sgB cs).length≤2^most):ZaA (ZcU cs most)=32768:=by
 obtain ⟨m,ms,hm,hL,hi,hz,hK⟩:=Zqn h1 hn h2
 rw [ZcU,ZoY,ZjF (p:=fun s=>decide (0<cs.getD s 0)) fun s hs=>by
  have:s ∉ ysB cs:=fun q=>by
   have:=(ZA3.1 q).2
   simp only [decide_eq_false_iff_not] at hs
   exact hs this
  rw [hz s this];rfl]
 rw [show (List.range cs.length).filter (fun s=>decide (0<cs.getD s 0))=usB cs from rfl]
 rw [←(ZuU.map fun s=>wt (Zie s (ZhH cs most))).sum_nat,ZId]
 have hlen:(ysB cs).length=m:=by rw [Zs5,hm]
 rw [hlen,ZmE (g:=fun i=>2^(15-most)*2^(most-lnM (m::ms) i)) fun i q=>by
  have hq:i<(ysB cs).length:=by omega
  rw [show (ysB cs).getD i 0=(ysB cs)[i] by simp [List.getD,hq],hi i hq]
  have a:=ZA0 (ms:=m::ms) (i:=i)
  have b:=ZA1 (m:=m) (ms:=ms) (i:=i) q
  rw [ZIe b (by omega),←Nat.pow_add]
  congr 1
  omega]
 rw [ZvX,hK,←Nat.pow_add,show 15-most+most=15 by omega]
def cdA (nl:Bool) (l:List Nat):AV:=.agg [.sl nl none (l.map nA),.sl false none ((ZbM l).map nA)]
theorem Zrq {nl:Bool} {l:List Nat}:(cdA nl l).free=true:=by simp only [cdA,AV.free,AV.free.freeL,Zab,Bool.and_self]
structure LnOk (l:List Nat):Prop where
 small:∀ x∈l,x≤15
 len:l.length≤320
 kr:ZaA l≤32768
set_option maxRecDepth 100000 in
theorem Zrr [Tabs Tryz.prog] (nl:Bool) (l:List Nat) (h:LnOk l):Con Tryz.prog Zdk [.sl nl none (l.map nA)] (cdA nl l):=by
 refine Con.of' mix Tryz.func86 rfl Tryz.ntmps86 Znx Zny (by simp) (by simp only [AV.free,AV.free.freeL,Zab,Bool.and_self]) Zrq ?_
 unfold ZiA
 have hc:=ZsM nl (l.map Int.ofNat) (by rw [ZII h.small h.len,if_neg (by have:=h.kr;omega)]) l toNat_ofNat.symm
 rw [←ZDL] at hc
 repeat (first | refine zS ?_ | exact zT)
 refine Zay _ (.inl ⟨by simp only [AV.free,AV.free.freeL,Zab,Bool.and_self],hc⟩) ?_
 repeat (first | refine zR @cdA.eq_1 ?_ | exact zU @cdA.eq_1)
def fxL:List Nat:=List.replicate 144 8++(List.replicate 112 9++(List.replicate 24 7++List.replicate 8 8))
def fxD:List Nat:=List.replicate 32 5
theorem ZoZ:LnOk fxL:=⟨by decide +kernel,by decide +kernel,by decide +kernel⟩
theorem Zs6:LnOk fxD:=⟨by decide +kernel,by decide +kernel,by decide +kernel⟩
def Zqo (l d:List Nat):AV:=.agg [.sl false none (l.map nA),.sl false none ((ZbM l).map nA),.sl false none (d.map nA),.sl false none ((ZbM d).map nA)]
theorem Zo0 {l d:List Nat}:(Zqo l d).free=true:=by simp only [Zqo,AV.free,AV.free.freeL,Zab,Bool.and_self]
set_option maxRecDepth 100000 in
theorem Zs7 [Tabs Tryz.prog]:Con Tryz.prog Ze9 [] (Zqo fxL fxD):=by
 refine Con.of' mix Tryz.func48 rfl Tryz.ntmps48 ZjW ZjX (by simp) rfl Zo0 ?_
 unfold Zfg
 have p1:=ZaT 8 144 (by omega) (by omega)
 have p2:=ZaT 9 112 (by omega) (by omega)
 have p3:=ZaT 7 24 (by omega) (by omega)
 have p4:=ZaT 8 8 (by omega) (by omega)
 have p5:=ZaT 5 32 (by omega) (by omega)
 have pc:=Zjh (List.replicate 144 8) (List.replicate 112 9) (List.replicate 24 7) (List.replicate 8 8) (by simp) (by simp)
 have t1:=Zrr false fxL ZoZ
 have t2:=Zrr false fxD Zs6
 have hL:List.replicate 144 8++(List.replicate 112 9++(List.replicate 24 7++List.replicate 8 8))=fxL:=rfl
 have hD:List.replicate 32 5=fxD:=rfl
 rw [hL] at pc
 rw [hD] at p5
 obtain ⟨A,hA⟩:∃ A,A=List.replicate 144 8:=⟨_,rfl⟩
 obtain ⟨B,hB⟩:∃ B,B=List.replicate 112 9:=⟨_,rfl⟩
 obtain ⟨C,hC⟩:∃ C,C=List.replicate 24 7:=⟨_,rfl⟩
 obtain ⟨D,hDd⟩:∃ D,D=List.replicate 8 8:=⟨_,rfl⟩
 rw [←hA] at p1 pc
 rw [←hB] at p2 pc
 rw [←hC] at p3 pc
 rw [←hDd] at p4 pc
 obtain ⟨F,hF⟩:∃ F,F=fxL:=⟨_,rfl⟩
 obtain ⟨G,hG⟩:∃ G,G=fxD:=⟨_,rfl⟩
 rw [←hF] at pc t1 ⊢
 rw [←hG] at p5 t2 ⊢
 clear hL hD hF hG
 unfold cdA at t1 t2
 repeat (first | refine zR (ja2 fR iR) ?_ | exact zU (ja2 fR iR))
 refine Zfo 1 1 (nl:=false) (cells:=[.sc (.int .i64 8)]) [.sl false none [.sc (.int .i64 ((8:Nat):Int))],int ((144:Nat):Int)] _ (by (first | exact yT | refine yS ?_)) (by (first | exact yU @Zab | refine yR @Zab ?_)) ?_ (by (first | exact yU @Zab | refine yR @Zab ?_)) p1 ?_
 ·(first | exact yU (ja2 fR iR) | refine yR (ja2 fR iR) ?_)
 repeat (first | refine zR (ja2 fR iR) ?_ | exact zU (ja2 fR iR))
 refine Zfo 3 2 (nl:=false) (cells:=[.sc (.int .i64 9)]) [.sl false none [.sc (.int .i64 ((9:Nat):Int))],int ((112:Nat):Int)] _ (by (first | exact yT | refine yS ?_)) (by (first | exact yU @Zab | refine yR @Zab ?_)) ?_ (by (first | exact yU @Zab | refine yR @Zab ?_)) p2 ?_
 ·(first | exact yU (ja2 fR iR) | refine yR (ja2 fR iR) ?_)
 repeat (first | refine zR (ja2 fR iR) ?_ | exact zU (ja2 fR iR))
 refine Zfo 5 3 (nl:=false) (cells:=[.sc (.int .i64 7)]) [.sl false none [.sc (.int .i64 ((7:Nat):Int))],int ((24:Nat):Int)] _ (by (first | exact yT | refine yS ?_)) (by (first | exact yU @Zab | refine yR @Zab ?_)) ?_ (by (first | exact yU @Zab | refine yR @Zab ?_)) p3 ?_
 ·(first | exact yU (ja2 fR iR) | refine yR (ja2 fR iR) ?_)
 repeat (first | refine zR (ja2 fR iR) ?_ | exact zU (ja2 fR iR))
 refine Zfo 7 4 (nl:=false) (cells:=[.sc (.int .i64 8)]) [.sl false none [.sc (.int .i64 ((8:Nat):Int))],int ((8:Nat):Int)] _ (by (first | exact yT | refine yS ?_)) (by (first | exact yU @Zab | refine yR @Zab ?_)) ?_ (by (first | exact yU @Zab | refine yR @Zab ?_)) p4 ?_
 ·(first | exact yU (ja2 fR iR) | refine yR (ja2 fR iR) ?_)
 repeat (first | refine zR (ja2 fR iR) ?_ | exact zU (ja2 fR iR))
 refine Zay _ (.inl ⟨by simp only [AV.free,AV.free.freeL,Zab,Bool.and_self],pc⟩) ?_
 repeat (first | refine zR (ja2 fR iR) ?_ | exact zU (ja2 fR iR))
 refine Zay _ (.inl ⟨by simp only [AV.free,AV.free.freeL,Zab,Bool.and_self],t1⟩) ?_
 repeat (first | refine zR (ja2 fR iR) ?_ | exact zU (ja2 fR iR))
 refine Zfo 12 5 (nl:=false) (cells:=[.sc (.int .i64 5)]) [.sl false none [.sc (.int .i64 ((5:Nat):Int))],int ((32:Nat):Int)] _ (by (first | exact yT | refine yS ?_)) (by (first | exact yU @Zab | refine yR @Zab ?_)) ?_ (by (first | exact yU @Zab | refine yR @Zab ?_)) p5 ?_
 ·(first | exact yU (ja2 fR iR) | refine yR (ja2 fR iR) ?_)
 repeat (first | refine zR (ja2 fR iR) ?_ | exact zU (ja2 fR iR))
 refine Zay _ (.inl ⟨by simp only [AV.free,AV.free.freeL,Zab,Bool.and_self],t2⟩) ?_
 repeat (first | refine zR (ja3 fR iR @Zqo.eq_1) ?_ | exact zU (ja3 fR iR @Zqo.eq_1))
structure CtOk (c:List Nat) (q:Nat):Prop where
 len:c.length≤300
 small:∀ x∈c,x≤100000
 pos:1≤q
 most:q≤15
 room:c.length≤2^q
theorem ZBf {c:List Nat}:(sgB c).length≤c.length:=by
 rw [sgB,List.length_map]
 exact Nat.le_trans (List.length_filter_le _ _) (by simp)
theorem ZBg {c:List Nat} {q:Nat} (h:CtOk c q):Zv0 (c.map Int.ofNat) (q:Int)=0:=by
 have h1:=h.len
 have h2:=h.pos
 have h3:=h.most
 have h4:=h.room
 have h6:=Zv1 (cs:=c.map Int.ofNat)
 rw [List.length_map] at h6
 have hb:(c.map Int.ofNat).any bdC=false:=by
  rw [List.any_eq_false]
  intro x hx
  obtain ⟨y,hy,rfl⟩:=List.mem_map.1 hx
  have:=h.small y hy
  unfold bdC
  simp only [Int.ofNat_eq_natCast,Bool.or_eq_true,decide_eq_true_eq,not_or]
  omega
 unfold Zv0
 rw [if_neg (by omega),List.length_map,if_neg (by omega),hb,if_neg (by simp),Int.toNat_natCast,if_neg (by omega)]
theorem ZEC {F:Nat→Nat} (h:∀ s,F s≤32768):∀ (l:List Nat),(l.map F).sum≤32768*l.length
 | []=>Nat.le_refl _
 | x::l=>by
  have:=ZEC h l
  have:=h x
  rw [List.map_cons,List.sum_cons,List.length_cons];omega
theorem Zjn {c:List Nat} {q:Nat} (h:CtOk c q):LnOk (ZcU c q):=by
 have h2:=h.pos
 have h3:=h.most
 have h5:=ZBf (c:=c)
 have hr:(sgB c).length≤2^q:=Nat.le_trans h5 h.room
 refine ⟨fun x hx=>?_,by rw [Zcn];have:=h.len;omega,?_⟩
 ·obtain ⟨i,hi,rfl⟩:=List.getElem_of_mem hx
  rw [Zcn] at hi
  have:=(ZlO h2 hr hi).1
  have e:(ZcU c q).getD i 0=(ZcU c q)[i]'(by rw [Zcn];exact hi):=by simp [List.getD,Zcn,hi]
  rw [e] at this
  omega
 ·by_cases hn:2≤(sgB c).length
  ·rw [ZlP h2 h3 hn hr];exact Nat.le_refl _
  ·rw [ZcU,ZoY,ZjF (p:=fun s=>decide (0<c.getD s 0)) fun s hs=>by
    rw [ZhH,if_pos (by omega),sgB,ZkP,List.count_eq_zero_of_not_mem (fun q=>by simp only [decide_eq_false_iff_not] at hs;exact hs (ZiF.1 q).2)]
    rfl]
   rw [show (List.range c.length).filter (fun s=>decide (0<c.getD s 0))=usB c from rfl]
   have:=ZEC (F:=fun s=>wt (Zie s (ZhH c q))) (fun s=>ZF4) (usB c)
   have hl:(usB c).length=(sgB c).length:=by rw [sgB,List.length_map]
   omega
set_option maxRecDepth 100000 in
theorem ZmG [Tabs Tryz.prog] (nl:Bool) (c:List Nat) (q:Nat) (h:CtOk c q):Con Tryz.prog Zcx [.sl nl none (c.map nA),int (q:Int)] (cdA false (ZcU c q)):=by
 refine Con.of' mix Tryz.func92 rfl Tryz.ntmps92 Zly Zlz (by simp) (by simp only [AV.free,AV.free.freeL,Zab,int,Bool.and_self]) Zrq ?_
 unfold ZgK
 have hl:=ZpH nl (c.map Int.ofNat) (q:Int)
 rw [ZBa,ZBg h,if_neg (by simp),toNat_ofNat,←ZDL,Int.toNat_natCast] at hl
 have hc:=Zrr false (ZcU c q) (Zjn h)
 obtain ⟨l,hl2⟩:∃ l,l=ZcU c q:=⟨_,rfl⟩
 rw [←hl2] at hl hc ⊢
 unfold cdA at hc
 repeat (first | refine zS ?_ | exact zT)
 refine Zay _ (.inl ⟨by simp only [AV.free,AV.free.freeL,Zab,int,Bool.and_self],hl⟩) ?_
 repeat (first | refine zS ?_ | exact zT)
 refine Zay _ (.inl ⟨by simp only [AV.free,AV.free.freeL,Zab,int,Bool.and_self],hc⟩) ?_
 repeat (first | refine zR @cdA.eq_1 ?_ | exact zU @cdA.eq_1)
abbrev K3:=UInt8 × UInt8 × UInt8
def kA (k:K3):AV:=.agg [u8 k.1,u8 k.2.1,u8 k.2.2]
def enA (e:K3 × Nat):AV:=.tup [kA e.1,nA e.2]
theorem ZBh {a b:UInt8} (h:u8 a=u8 b):a=b:=by
 simp only [u8,AV.sc.injEq,Value.int.injEq,true_and] at h
 exact UInt8.toNat_inj.1 (by omega)
theorem Zv4 {a b:K3}:kA a=kA b↔a=b:=by
 constructor
 ·intro h
  obtain ⟨a1,a2,a3⟩:=a
  obtain ⟨b1,b2,b3⟩:=b
  simp only [kA,AV.agg.injEq,List.cons.injEq,and_true] at h
  rw [ZBh h.1,ZBh h.2.1,ZBh h.2.2]
 ·rintro rfl;rfl
def mfd (k:K3):List (K3 × Nat)→Option Nat
 | []=>none
 | e::m=>if k=e.1 then some e.2 else mfd k m
def mpt (k:K3) (p:Nat):List (K3 × Nat)→List (K3 × Nat)
 | []=>[(k,p)]
 | e::m=>if k=e.1 then (e.1,p)::m else e::mpt k p m
theorem Zv5 {k:K3}:∀ {m:List (K3 × Nat)},ZjR (kA k) (m.map enA)=(mfd k m).map nA
 | []=>rfl
 | e::m=>by
  rw [List.map_cons,enA,ZjR,mfd]
  by_cases c:k=e.1
  ·rw [if_pos (Zv4.2 c),if_pos c];rfl
  ·rw [if_neg (fun h=>c (Zv4.1 h)),if_neg c];exact Zv5
theorem ZBi {k:K3} {p:Nat}:∀ {m:List (K3 × Nat)},Ztr (kA k) (nA p) (m.map enA)=(mpt k p m).map enA
 | []=>rfl
 | e::m=>by
  rw [List.map_cons,enA,Ztr,mpt]
  by_cases c:k=e.1
  ·rw [if_pos (Zv4.2 c),if_pos c];rfl
  ·rw [if_neg (fun h=>c (Zv4.1 h)),if_neg c,List.map_cons,ZBi];rfl
abbrev z3:Value:=.agg #[.int .u8 0,.int .u8 0,.int .u8 0]
theorem ZuW {z:Int} {c:UInt8}:Zn0 (.int .u8 z) (u8 c):=⟨rfl,Int.natCast_nonneg _,by have:=c.toNat_lt;show (c.toNat:Int)≤255;omega⟩
theorem ZED {k:K3}:Zfm z3 (kA k):=⟨ZuW,ZuW,ZuW,trivial⟩
theorem ZBj:∀ {m:List (K3 × Nat)},Zdy z3 (m.map enA)
 | []=>trivial
 | e::m=>⟨ZED,ZBj⟩
theorem Zv6 {m:List (K3 × Nat)}:Zdy z3 (m.map enA)=True:=eq_true ZBj
theorem ZBk {k:K3}:Zfm z3 (.agg [u8 k.1,u8 k.2.1,u8 k.2.2])=True:=eq_true ZED
def fdR (nl:Bool) (b:List UInt8) (t n:Nat):List AV:=[.sl nl none (b.map u8),.mp 1001 0,.own 1002 0 none 0 n,.sc (.int .i64 (t:Int))]
abbrev fdI (nl:Bool) (b:List UInt8) (t:Nat) (m:List (K3 × Nat)) (A:List Int):List AO:=[.row false (fdR nl b t A.length),.row false [.tup (m.map enA)],.row false (A.map int)]
abbrev fdO (nl:Bool) (b:List UInt8) (t:Nat) (m:List (K3 × Nat)) (A:List Int):List (Nat × Nat × AO):=[(1000,0,.row false (fdR nl b t A.length)),(1001,0,.row false [.tup (m.map enA)]),(1002,0,.row false (A.map int))]
theorem ZBl:∀ {m:List (K3 × Nat)},AV.free.freeL (m.map enA)=true:=fun {m}=>Zba.2 fun x hx=>by
 obtain ⟨e,_,rfl⟩:=List.mem_map.1 hx;rfl
theorem Ze4 {ρ:Nat→Nat→Nat × Nat} {m:List (K3 × Nat)}:ren.renL ρ (m.map enA)=m.map enA:=Zbb ρ _ ZBl
theorem ZBm {nl:Bool} {b:List UInt8} {t:Nat} {m:List (K3 × Nat)} {A:List Int}:∀ n cells,AO.row n cells∈fdI nl b t m A→AV.gl.glL 1 cells:=by
 intro n cells h
 simp only [List.mem_cons,AO.row.injEq,List.not_mem_nil,or_false] at h
 obtain ⟨-,rfl⟩ | ⟨-,rfl⟩ | ⟨-,rfl⟩:=h
 ·simp only [fdR,AV.gl.glL,AV.gl,and_true]
  exact ⟨Zae _ _ Zak,by omega,by omega⟩
 ·simp only [AV.gl.glL,AV.gl,and_true]
  exact Zae _ _ ZBl
 ·exact Zae _ _ Zib
def ZaD (b:List UInt8) (p:Int):Option K3:=if p<0∨(b.length:Int)-p<3 then none else some (b.getD p.toNat 0,b.getD (p.toNat+1) 0,b.getD (p.toNat+2) 0)
theorem ZIU {b:List UInt8} {p:Nat} (h:p+3≤b.length):((b.drop p).map u8).take 3=[u8 (b.getD p 0),u8 (b.getD (p+1) 0),u8 (b.getD (p+2) 0)]:=by
 rw [List.drop_eq_getElem_cons (by omega),List.drop_eq_getElem_cons (by omega),List.drop_eq_getElem_cons (by omega)]
 simp only [List.map_cons,List.take_succ_cons,List.take_zero,List.getD,List.getElem?_eq_getElem (show p<b.length by omega),List.getElem?_eq_getElem (show p+1<b.length by omega),List.getElem?_eq_getElem (show p+2<b.length by omega),Option.getD_some]
set_option maxRecDepth 100000 in
theorem ZmH [Tabs Tryz.prog] (nl:Bool) (b:List UInt8) (hb:b.length≤20000) (t:Nat) (m:List (K3 × Nat)) (A:List Int) (p:Int) (h1:-40000≤p) (h2:p≤20000) :
  HCon Tryz.prog ZbN [.op 1000 0 0,.sc (.int .i64 p)] (fdI nl b t m A) (.tup [kA ((ZaD b p).getD (0,0,0)),boo (ZaD b p).isSome]) (fdO nl b t m A) 3:=by
 refine HCon.of' mix Tryz.func129 rfl Tryz.ntmps129 ZiN ZiO (by simp) (by simp [AV.gl,AV.gl.glL]) ZBm ?_
 unfold Zer
 have hr0:(ZaD b p)=none→AV.tup [kA ((ZaD b p).getD (0,0,0)),boo (ZaD b p).isSome] = .tup [.agg [.sc (.int .u8 0),.sc (.int .u8 0),.sc (.int .u8 0)],boo false]:=fun h=>by rw [h];rfl
 by_cases c1:p<0
 ·have d1:=decide_eq_true c1
  rw [hr0 (if_pos (.inl c1))]
  repeat (first | refine zR (ja3 @d1 @fdR.eq_1 iR) ?_ | exact zU (ja3 @d1 @fdR.eq_1 iR))
 have d1:=decide_eq_false c1
 obtain ⟨q,rfl⟩:∃ q:Nat,p=(q:Int):=⟨p.toNat,by omega⟩
 by_cases c2:(b.length:Int)-(q:Int)<3
 ·have d2:=decide_eq_true c2
  rw [hr0 (if_pos (.inr c2))]
  repeat (first | refine zR (ja5 @d1 @d2 @fdR.eq_1 iR @List.length_map.{0,0}) ?_ | exact zU (ja5 @d1 @d2 @fdR.eq_1 iR @List.length_map.{0,0}))
 have d2:=decide_eq_false c2
 have hs:ZaD b (q:Int)=some (b.getD q 0,b.getD (q+1) 0,b.getD (q+2) 0):=by rw [ZaD,if_neg (by omega)];rfl
 have hc:=ZIU (b:=b) (p:=q) (by omega)
 have hdl:(b.drop q).length=b.length-q:=List.length_drop
 obtain ⟨x,hx⟩:∃ x,x=b.getD q 0:=⟨_,rfl⟩
 obtain ⟨y,hy⟩:∃ x,x=b.getD (q+1) 0:=⟨_,rfl⟩
 obtain ⟨z,hz⟩:∃ x,x=b.getD (q+2) 0:=⟨_,rfl⟩
 obtain ⟨r,hr⟩:∃ r,r=b.drop q:=⟨_,rfl⟩
 rw [←hx,←hy,←hz,←hr] at hc
 rw [←hx,←hy,←hz] at hs
 rw [←hr] at hdl
 have hrr:(b.map u8).drop q=r.map u8:=by rw [hr,List.map_drop]
 have hmin:min r.length 3=3:=by omega
 have ho:AV.tup [kA ((ZaD b (q:Int)).getD (0,0,0)),boo (ZaD b (q:Int)).isSome] = .tup [.agg [u8 x,u8 y,u8 z],boo true]:=by rw [hs];rfl
 rw [ho]
 repeat (first | refine zR (ja8 @d1 @d2 @fdR.eq_1 iR @List.length_map.{0,0} @hrr @hc @hmin) ?_ | exact zU (ja8 @d1 @d2 @fdR.eq_1 iR @List.length_map.{0,0} @hrr @hc @hmin))
def ZiG (b:List UInt8) (p q most:Nat):Nat:=((List.range most).takeWhile fun i=>b.getD (p+i) 0==b.getD (q+i) 0).length
theorem Zv7 {b:List UInt8} {p q most n:Nat} (hn:n≤most) (h:∀ i,i<n→b.getD (p+i) 0=b.getD (q+i) 0) (hx:n=most∨b.getD (p+n) 0≠b.getD (q+n) 0):ZiG b p q most=n:=by
 have e:List.range most=List.range n++(List.range (most-n)).map (n+·):=by
  have:=List.range_add (n:=n) (m:=most-n)
  rwa [show n+(most-n)=most by omega] at this
 unfold ZiG
 rw [e,List.takeWhile_append_of_pos (by
  intro i hi
  simp only [beq_iff_eq]
  exact h i (List.mem_range.1 hi)),List.length_append,List.length_range]
 have:(((List.range (most-n)).map (n+·)).takeWhile fun i=>b.getD (p+i) 0==b.getD (q+i) 0)=[]:=by
  rcases hx with hx | hx
  ·rw [hx,Nat.sub_self];rfl
  ·by_cases c:most-n=0
   ·rw [c];rfl
   ·rw [show most-n=(most-n-1)+1 by omega,List.range_succ_eq_map,List.map_cons,List.takeWhile_cons,if_neg]
    simpa using hx
 rw [this]
 rfl
theorem Zv8 {b:List UInt8} {p q most:Nat}:ZiG b p q most≤most:=by
 have:=(List.takeWhile_sublist (l:=List.range most) fun i=>b.getD (p+i) 0==b.getD (q+i) 0).length_le
 rwa [List.length_range] at this
theorem ZBn {b:List UInt8} {p q most i:Nat} (h:i<ZiG b p q most):b.getD (p+i) 0=b.getD (q+i) 0:=by
 have h2:=List.all_takeWhile (l:=List.range most) (p:=fun i=>b.getD (p+i) 0==b.getD (q+i) 0)
 have hp:=List.takeWhile_prefix (l:=List.range most) fun i=>b.getD (p+i) 0==b.getD (q+i) 0
 rw [List.all_eq_true] at h2
 have hm:=List.getElem_mem (l:=(List.range most).takeWhile fun i=>b.getD (p+i) 0==b.getD (q+i) 0) h
 have he:=hp.getElem h
 rw [List.getElem_range] at he
 rw [he] at hm
 simpa using h2 i hm
set_option maxRecDepth 100000 in
theorem Zyo [Tabs Tryz.prog] (nl:Bool) (b:List UInt8) (hb:b.length≤20000) (t:Nat) (m:List (K3 × Nat)) (A:List Int) (p q most:Nat) (hp:p+most≤b.length) (hq:q+most≤b.length) :
  HCon Tryz.prog Zel [.op 1000 0 0,.sc (.int .i64 (p:Int)),.sc (.int .i64 (q:Int)),.sc (.int .i64 (most:Int))] (fdI nl b t m A) (int (ZiG b p q most:Int)) (fdO nl b t m A) 1:=by
 refine HCon.of' mix Tryz.func128 rfl Tryz.ntmps128 ZiL ZiM (by simp) (by simp [AV.gl,AV.gl.glL]) ZBm ?_
 unfold Zeq
 repeat (first | refine zS ?_ | exact zT)
 refine SWp.loop (α:=Nat) (fun n=>mk 37 1 [(0,.op 1000 0 0),(1,.sc (.int .i64 (p:Int))),(2,.sc (.int .i64 (q:Int))),(3,.sc (.int .i64 (most:Int))),(9,int n)] (fdO nl b t m A))
  (fun n=>n≤most∧∀ i,i<n→b.getD (p+i) 0=b.getD (q+i) 0) (fun n=>most-n) 0 ⟨Nat.zero_le _,fun i h=>by omega⟩ (Zau rfl ?_ ?_ ?_) ?_
 ·exact Nat.le_refl _
 iterate 2 (case _=>(first | exact yT | refine yS ?_))
 rintro n ⟨hn,heq⟩ -
 by_cases c:n<most
 ·have d:decide ((n:Int)<(most:Int))=true:=decide_eq_true (by omega)
  have e1:(p:Int)+(n:Int)=((p+n:Nat):Int):=by omega
  have e2:(q:Int)+(n:Int)=((q+n:Nat):Int):=by omega
  obtain ⟨pn,hpn⟩:∃ x,x=p+n:=⟨_,rfl⟩
  obtain ⟨qn,hqn⟩:∃ x,x=q+n:=⟨_,rfl⟩
  rw [←hpn] at e1
  rw [←hqn] at e2
  have g1:(b.map u8).getD pn .junk=u8 (b.getD pn 0):=ZqX (by omega)
  have g2:(b.map u8).getD qn .junk=u8 (b.getD qn 0):=ZqX (by omega)
  obtain ⟨x,hx⟩:∃ x,x=b.getD pn 0:=⟨_,rfl⟩
  obtain ⟨y,hy⟩:∃ x,x=b.getD qn 0:=⟨_,rfl⟩
  rw [←hx] at g1
  rw [←hy] at g2
  by_cases cx:x=y
  ·have dx:decide ((x.toNat:Int)=(y.toNat:Int))=true:=decide_eq_true (by rw [cx])
   repeat (first | refine zR (ja8 @d @fdR.eq_1 iR @e1 @e2 @List.length_map.{0,0} @g1 (ja2 @g2 @dx)) ?_ | exact zU (ja8 @d @fdR.eq_1 iR @e1 @e2 @List.length_map.{0,0} @g1 (ja2 @g2 @dx)))
   refine At.of (n+1) ⟨by omega,fun i hi=>?_⟩ (by omega) rfl rfl (Nat.le_refl _) ?_ ?_
   ·by_cases ci:i=n
    ·subst ci;rw [←hpn,←hqn,←hx,←hy,cx]
    ·exact heq i (by omega)
   iterate 2 (case _=>(first | exact yU @fdR.eq_1 | refine yR @fdR.eq_1 ?_))
  ·have dx:decide ((x.toNat:Int)=(y.toNat:Int))=false:=decide_eq_false (fun h=>cx (UInt8.toNat_inj.1 (by omega)))
   rw [Zv7 hn heq (.inr (by rw [←hpn,←hqn,←hx,←hy];exact cx))]
   repeat (first | refine zR (ja8 @d @fdR.eq_1 iR @e1 @e2 @List.length_map.{0,0} @g1 (ja2 @g2 @dx)) ?_ | exact zU (ja8 @d @fdR.eq_1 iR @e1 @e2 @List.length_map.{0,0} @g1 (ja2 @g2 @dx)))
 ·have d:decide ((n:Int)<(most:Int))=false:=decide_eq_false (by omega)
  rw [Zv7 hn heq (.inl (by omega))]
  repeat (first | refine zR (ja3 @d @fdR.eq_1 iR) ?_ | exact zU (ja3 @d @fdR.eq_1 iR))
def Ze1 (b:List UInt8) (m:List (K3 × Nat)) (p:Int):Int:=match ZaD b p with
 | some k=>(match mfd k m with
  | some q=>(q:Int)
  | none=>-32769)
 | none=>-32769
set_option maxRecDepth 100000 in
theorem ZlQ [Tabs Tryz.prog] (nl:Bool) (b:List UInt8) (hb:b.length≤20000) (t:Nat) (m:List (K3 × Nat)) (A:List Int) (p:Int) (h1:-40000≤p) (h2:p≤20000) :
  HCon Tryz.prog ZbX [.op 1000 0 0,.sc (.int .i64 p)] (fdI nl b t m A) (int (Ze1 b m p)) (fdO nl b t m A) 5:=by
 refine HCon.of' mix Tryz.func127 rfl Tryz.ntmps127 ZgY ZgZ (by simp) (by simp [AV.gl,AV.gl.glL]) ZBm ?_
 unfold Zde
 have st:=ZmH nl b hb t m A p h1 h2
 cases hs:ZaD b p with
 | none =>
  have hl:Ze1 b m p=-32769:=by rw [Ze1,hs]
  have ho:AV.tup [kA ((ZaD b p).getD (0,0,0)),boo (ZaD b p).isSome] = .tup [.agg [.sc (.int .u8 0),.sc (.int .u8 0),.sc (.int .u8 0)],boo false]:=by rw [hs];rfl
  rw [ho] at st
  rw [hl]
  repeat (first | refine zS ?_ | exact zT)
  refine Zag [(1000,0),(1001,0),(1002,0)] 2000 st (by simp) (by simp) ?_ ?_ ?_
  iterate 2 (case _=>(first | exact yU (ja4 @fdR.eq_1 iR @Ze4 @Zal) | refine yR (ja4 @fdR.eq_1 iR @Ze4 @Zal) ?_))
  repeat (first | refine zR (ja4 @fdR.eq_1 iR @Ze4 @Zal) ?_ | exact zU (ja4 @fdR.eq_1 iR @Ze4 @Zal))
 | some k =>
  obtain ⟨x,y,z⟩:=k
  have ho:AV.tup [kA ((ZaD b p).getD (0,0,0)),boo (ZaD b p).isSome] = .tup [.agg [u8 x,u8 y,u8 z],boo true]:=by rw [hs];rfl
  rw [ho] at st
  have hm:ZjR (.agg [.sc (.int .u8 (x.toNat:Int)),.sc (.int .u8 (y.toNat:Int)),.sc (.int .u8 (z.toNat:Int))]) (m.map enA)=(mfd (x,y,z) m).map nA:=Zv5 (k:=(x,y,z))
  have hk:Zfm (.agg #[.int .u8 0,.int .u8 0,.int .u8 0]) (.agg [.sc (.int .u8 (x.toNat:Int)),.sc (.int .u8 (y.toNat:Int)),.sc (.int .u8 (z.toNat:Int))])=True:=ZBk (k:=(x,y,z))
  obtain ⟨e,he⟩:∃ e,e=m.map enA:=⟨_,rfl⟩
  have hen:Zdy (.agg #[.int .u8 0,.int .u8 0,.int .u8 0]) e=True:=by rw [he];exact Zv6
  have hre:∀ ρ,ren.renL ρ e=e:=fun ρ=>by rw [he];exact Ze4
  rw [←he] at hm
  simp only [fdI,fdO,←he] at st ⊢
  cases hf:mfd (x,y,z) m with
  | none =>
   have hl:Ze1 b m p=-32769:=by rw [Ze1,hs];simp only [hf]
   rw [hf] at hm
   rw [hl]
   simp only [Option.map_none] at hm
   repeat (first | refine zS ?_ | exact zT)
   refine Zag [(1000,0),(1001,0),(1002,0)] 2000 st (by simp) (by simp) ?_ ?_ ?_
   iterate 2 (case _=>(first | exact yU (ja4 @fdR.eq_1 iR @hre @Zal) | refine yR (ja4 @fdR.eq_1 iR @hre @Zal) ?_))
   repeat (first | refine zR (ja8 @fdR.eq_1 iR @hre @Zal @hm @hk @hen (ja3 @ZiS.eq_1 @ZiS.eq_2 @Option.isSome_none.{0})) ?_ | exact zU (ja8 @fdR.eq_1 iR @hre @Zal @hm @hk @hen (ja3 @ZiS.eq_1 @ZiS.eq_2 @Option.isSome_none.{0})))
  | some q =>
   have hl:Ze1 b m p=(q:Int):=by rw [Ze1,hs];simp only [hf]
   rw [hf] at hm
   rw [hl]
   simp only [Option.map_some,nA] at hm
   repeat (first | refine zS ?_ | exact zT)
   refine Zag [(1000,0),(1001,0),(1002,0)] 2000 st (by simp) (by simp) ?_ ?_ ?_
   iterate 2 (case _=>(first | exact yU (ja4 @fdR.eq_1 iR @hre @Zal) | refine yR (ja4 @fdR.eq_1 iR @hre @Zal) ?_))
   repeat (first | refine zR (ja8 @fdR.eq_1 iR @hre @Zal @hm @hk @hen (ja3 @ZiS.eq_1 @ZiS.eq_2 @Option.isSome_some.{0})) ?_ | exact zU (ja8 @fdR.eq_1 iR @hre @Zal @hm @hk @hen (ja3 @ZiS.eq_1 @ZiS.eq_2 @Option.isSome_some.{0})))
def Zrs (b:List UInt8) (A:List Int) (at_ most:Nat):Nat→Int→Nat→Nat→Nat × Nat
 | 0,_,l,k=>(l,k)
 | t+1,p,l,k=>if 32768<(at_:Int)-p∨l=most then (l,k) else
  if l<ZiG b p.toNat at_ most then Zrs b A at_ most t (A.getD p.toNat 0) (ZiG b p.toNat at_ most) (at_-p.toNat)
  else Zrs b A at_ most t (A.getD p.toNat 0) l k
structure FInv (b:List UInt8) (m:List (K3 × Nat)) (A:List Int) (at_:Nat):Prop where
 len:A.length=b.length
 map:∀ e∈m,e.2<at_∧ZaD b (e.2:Int)=some e.1
 chain:∀ p,p<at_→(ZaD b (p:Int)).isSome=true→A.getD p 0=-32769∨(0≤A.getD p 0∧A.getD p 0<(p:Int)∧ZaD b (A.getD p 0)=ZaD b (p:Int))
theorem ZBo {k:K3} {q:Nat}:∀ {m:List (K3 × Nat)},mfd k m=some q→(k,q)∈m
 | [],h=>by simp [mfd] at h
 | e::m,h=>by
  rw [mfd] at h
  split at h
  ·rename_i c;cases h;rw [c];simp
  ·exact List.mem_cons_of_mem _ (ZBo h)
theorem ZnU {b:List UInt8} {m:List (K3 × Nat)} {A:List Int} {at_:Nat} (h:FInv b m A at_):Ze1 b m (at_:Int)=-32769∨(0≤Ze1 b m (at_:Int)∧Ze1 b m (at_:Int)<(at_:Int)∧ZaD b (Ze1 b m (at_:Int))=ZaD b (at_:Int)∧(ZaD b (at_:Int)).isSome=true):=by
 cases hs:ZaD b (at_:Int) with
 | none=>exact .inl (by rw [Ze1,hs])
 | some k =>
  cases hf:mfd k m with
  | none=>exact .inl (by rw [Ze1,hs];simp only [hf])
  | some q =>
   have hl:Ze1 b m (at_:Int)=(q:Int):=by rw [Ze1,hs];simp only [hf]
   obtain ⟨h1,h2⟩:=h.map _ (ZBo hf)
   rw [hl]
   exact .inr ⟨Int.natCast_nonneg _,Int.ofNat_lt.2 h1,h2,rfl⟩
def Zyp (b:List UInt8) (at_ most:Nat) (r:Nat × Nat):Prop:=r.1=0∨(3≤r.1∧r.1≤most∧1≤r.2∧r.2≤at_∧∀ i,i<r.1→b.getD (at_-r.2+i) 0=b.getD (at_+i) 0)
theorem ZBp {b:List UInt8} {p q:Int} (h:ZaD b p=ZaD b q) (hs:(ZaD b q).isSome=true) (hp:0≤p) (hq:0≤q):∀ i,i<3→b.getD (p.toNat+i) 0=b.getD (q.toNat+i) 0:=by
 have h1:ZaD b q=some (b.getD q.toNat 0,b.getD (q.toNat+1) 0,b.getD (q.toNat+2) 0):=by
  unfold ZaD at hs ⊢
  split at hs
  ·simp at hs
  ·rename_i c;rw [if_neg c]
 have h2:ZaD b p=some (b.getD p.toNat 0,b.getD (p.toNat+1) 0,b.getD (p.toNat+2) 0):=by
  rw [h1] at h
  unfold ZaD at h ⊢
  split at h
  ·simp at h
  ·rename_i c;rw [if_neg c]
 rw [h1,h2] at h
 simp only [Option.some.injEq,Prod.mk.injEq] at h
 intro i hi
 match i,hi with
 | 0,_=>exact h.1
 | 1,_=>exact h.2.1
 | 2,_=>exact h.2.2
theorem Zrt {b:List UInt8} {m:List (K3 × Nat)} {A:List Int} {at_ most:Nat} (h:FInv b m A at_) (hat:at_+most≤b.length) (h3:(ZaD b (at_:Int)).isSome=true→3≤most):∀ (t:Nat) (p:Int) (l k:Nat),
  (p=-32769∨(0≤p∧p<(at_:Int)∧ZaD b p=ZaD b (at_:Int)∧(ZaD b (at_:Int)).isSome=true))→Zyp b at_ most (l,k)→Zyp b at_ most (Zrs b A at_ most t p l k)
 | 0,p,l,k,_,hr=>hr
 | t+1,p,l,k,hp,hr=>by
  rw [Zrs]
  by_cases c:32768<(at_:Int)-p∨l=most
  ·rw [if_pos c];exact hr
  ·rw [if_neg c]
   rcases hp with hp | ⟨p0,p1,p2,p3⟩
   ·omega
   ·have hnext:A.getD p.toNat 0=-32769∨(0≤A.getD p.toNat 0∧A.getD p.toNat 0<(at_:Int)∧ZaD b (A.getD p.toNat 0)=ZaD b (at_:Int)∧(ZaD b (at_:Int)).isSome=true):=by
     have hc:=h.chain p.toNat (by omega) (by rw [Int.toNat_of_nonneg p0,p2];exact p3)
     rw [Int.toNat_of_nonneg p0] at hc
     rcases hc with hc | ⟨q0,q1,q2⟩
     ·exact .inl hc
     ·exact .inr ⟨q0,by omega,by rw [q2,p2],p3⟩
    split
    ·rename_i hl
     refine Zrt h hat h3 t _ _ _ hnext (.inr ⟨?_,Zv8,by omega,by omega,fun i hi=>?_⟩)
     ·rcases Nat.lt_or_ge (ZiG b p.toNat at_ most) 3 with hlt | hge
      ·exfalso
       have hn3:=h3 p3
       have e3:=ZBp p2 p3 p0 (Int.natCast_nonneg _)
       obtain ⟨n,hn⟩:∃ n,n=ZiG b p.toNat at_ most:=⟨_,rfl⟩
       have hge:3≤ZiG b p.toNat at_ most:=by
        unfold ZiG
        have e:List.range most=List.range 3++(List.range (most-3)).map (3+·):=by
         have:=List.range_add (n:=3) (m:=most-3)
         rwa [show 3+(most-3)=most by omega] at this
        rw [e,List.takeWhile_append_of_pos (by
         intro i hi
         simp only [beq_iff_eq]
         have:=e3 i (List.mem_range.1 hi)
         simpa using this),List.length_append,List.length_range]
        omega
       omega
      ·exact hge
     ·rw [show at_-(at_-p.toNat)+i=p.toNat+i by omega]
      exact ZBn hi
    ·exact Zrt h hat h3 t _ _ _ hnext hr
set_option maxHeartbeats 1000000 in
set_option maxRecDepth 100000 in
theorem Zs8 [Tabs Tryz.prog] (nl:Bool) (b:List UInt8) (hb:b.length≤20000) (t:Nat) (ht:t≤20000) (m:List (K3 × Nat)) (A:List Int) (at_:Nat) (hat:at_<b.length) (hI:FInv b m A at_) (R:Nat × Nat)
  (hR:R=Zrs b A at_ (min 258 (b.length-at_)) t (Ze1 b m (at_:Int)) 0 0) :
  HCon Tryz.prog Zdz [.op 1000 0 0,.sc (.int .i64 (at_:Int))] (fdI nl b t m A) (.tup [.sc (.int .i64 (R.1:Int)),.sc (.int .i64 (R.2:Int))]) (fdO nl b t m A) 100000:=by
 refine HCon.of' mix Tryz.func90 rfl Tryz.ntmps90 Zhs Zht (by simp) (by simp [AV.gl,AV.gl.glL]) ZBm ?_
 unfold ZdF
 obtain ⟨most,hmost⟩:∃ x,x=min 258 (b.length-at_):=⟨_,rfl⟩
 have hmin:(if (b.length:Int)-(at_:Int)<258 then (b.length:Int)-(at_:Int) else 258)=(most:Int):=by
  split <;> omega
 have ll:=ZlQ nl b hb t m A (at_:Int) (by omega) (by omega)
 have hp0:=ZnU hI
 obtain ⟨p0,hp0e⟩:∃ x,x=Ze1 b m (at_:Int):=⟨_,rfl⟩
 rw [←hmost,←hp0e] at hR
 rw [←hp0e] at ll hp0
 have hlen:=hI.len
 obtain ⟨e,he⟩:∃ e,e=m.map enA:=⟨_,rfl⟩
 have hre:∀ ρ,ren.renL ρ e=e:=fun ρ=>by rw [he];exact Ze4
 simp only [fdI,fdO,←he] at ll ⊢
 repeat (first | refine zR (ja4 @fdR.eq_1 iR @List.length_map.{0,0} @hmin) ?_ | exact zU (ja4 @fdR.eq_1 iR @List.length_map.{0,0} @hmin))
 refine Zag [(1000,0),(1001,0),(1002,0)] 2000 ll (by simp) (by simp) ?_ ?_ ?_
 iterate 2 (case _=>(first | exact yU (ja4 @fdR.eq_1 iR @hre @Zal) | refine yR (ja4 @fdR.eq_1 iR @hre @Zal) ?_))
 repeat (first | refine zR (ja4 @fdR.eq_1 iR @hre @Zal) ?_ | exact zU (ja4 @fdR.eq_1 iR @hre @Zal))
 refine SWp.loop (α:=Nat × Int × Nat × Nat × Nat) (fun x=>mk 63 x.2.2.2.2 [(0,.op 1000 0 0),(1,.sc (.int .i64 (at_:Int))),(4,int x.2.2.1),(5,int x.2.2.2.1),(6,int most),(7,.sc (.int .i64 x.2.1)),(23,int t),(24,int x.1)] (fdO nl b t m A))
  (fun x=>x.1≤t∧R=Zrs b A at_ most (t-x.1) x.2.1 x.2.2.1 x.2.2.2.1∧x.2.2.1≤258∧(x.2.1=-32769∨(0≤x.2.1∧x.2.1<(at_:Int)∧ZaD b x.2.1=ZaD b (at_:Int)∧(ZaD b (at_:Int)).isSome=true))∧x.2.2.2.2≤6+x.1) (fun x=>t-x.1) (0,p0,0,0,6) ⟨Nat.zero_le _,by simpa using hR,Nat.zero_le _,hp0,by simp⟩ (Zau rfl ?_ ?_ ?_) ?_
 ·exact Nat.le_refl _
 iterate 2 (case _=>(first | exact yU (ja2 @fdR.eq_1 he.symm) | refine yR (ja2 @fdR.eq_1 he.symm) ?_))
 rintro ⟨i,p,l,k,gc⟩ ⟨hi,hRi,hl,hp,hgc⟩ -
 simp only at hi hRi hl hp hgc
 by_cases ci:i<t
 ·have di:decide ((i:Int)<(t:Int))=true:=decide_eq_true (by omega)
  obtain ⟨j,hj⟩:∃ j,t-i=j+1:=⟨t-i-1,by omega⟩
  have hj2:t-(i+1)=j:=by omega
  rw [hj,Zrs] at hRi
  by_cases c1:32768<(at_:Int)-p
  ·have d1:=decide_eq_true c1
   rw [if_pos (.inl c1)] at hRi
   rw [hRi]
   repeat (first | refine zR (ja5 @di @d1 @fdR.eq_1 iR he.symm) ?_ | exact zU (ja5 @di @d1 @fdR.eq_1 iR he.symm))
   try omega
  have d1:=decide_eq_false c1
  by_cases c2:l=most
  ·have d2:decide ((l:Int)=(most:Int))=true:=decide_eq_true (by omega)
   rw [if_pos (.inr c2)] at hRi
   rw [hRi]
   repeat (first | refine zR (ja6 @di @d1 @d2 @fdR.eq_1 iR he.symm) ?_ | exact zU (ja6 @di @d1 @d2 @fdR.eq_1 iR he.symm))
   try omega
  have d2:decide ((l:Int)=(most:Int))=false:=decide_eq_false (by omega)
  rw [if_neg (by omega)] at hRi
  rcases hp with hp | ⟨hp0',hp1,hp2,hp3⟩
  ·omega
  obtain ⟨q,rfl⟩:∃ q:Nat,p=(q:Int):=⟨p.toNat,by omega⟩
  rw [Int.toNat_natCast] at hRi
  have al:=Zyo nl b hb t m A q at_ most (by omega) (by omega)
  have hale:=Zv8 (b:=b) (p:=q) (q:=at_) (most:=most)
  obtain ⟨n,hn⟩:∃ n,n=ZiG b q at_ most:=⟨_,rfl⟩
  rw [←hn] at al hRi hale
  have hrem:Int.tmod (q:Int) (A.length:Int)=(q:Int):=Int.tmod_eq_of_lt (by omega) (by omega)
  have hga:(A.map int).getD q .junk = .sc (.int .i64 (A.getD q 0)):=ZAe (by omega)
  have hnext:A.getD q 0=-32769∨(0≤A.getD q 0∧A.getD q 0<(at_:Int)∧ZaD b (A.getD q 0)=ZaD b (at_:Int)∧(ZaD b (at_:Int)).isSome=true):=by
   rcases hI.chain q (by omega) (by rw [hp2];exact hp3) with hc | ⟨q0,q1,q2⟩
   ·exact .inl hc
   ·exact .inr ⟨q0,by omega,by rw [q2,hp2],hp3⟩
  obtain ⟨nx,hnx⟩:∃ y,y=A.getD q 0:=⟨_,rfl⟩
  rw [←hnx] at hga hnext hRi
  have hnxb:-32769≤nx∧nx≤20000:=by omega
  have hA0:decide ((A.length:Int)=0)=false:=decide_eq_false (by omega)
  simp only [fdI,fdO,←he] at al
  repeat (first | refine zR (ja6 @di @d1 @d2 @fdR.eq_1 iR he.symm) ?_ | exact zU (ja6 @di @d1 @d2 @fdR.eq_1 iR he.symm))
  refine Zag [(1000,0),(1001,0),(1002,0)] 2000 al (by simp) (by simp) ?_ ?_ ?_
  iterate 2 (case _=>(first | exact yU (ja5 @fdR.eq_1 iR @hre @Zal he.symm) | refine yR (ja5 @fdR.eq_1 iR @hre @Zal he.symm) ?_))
  by_cases c3:l<n
  ·have d3:decide ((l:Int)<(n:Int))=true:=decide_eq_true (by omega)
   have hk:(at_:Int)-(q:Int)=((at_-q:Nat):Int):=by omega
   obtain ⟨kk,hkk⟩:∃ y,y=at_-q:=⟨_,rfl⟩
   rw [←hkk] at hk hRi
   rw [if_pos c3] at hRi
   repeat (first | refine zR (ja8 @fdR.eq_1 iR @hre @Zal @d3 @hk @hrem (ja2 @hga @List.length_map.{0,0})) ?_ | exact zU (ja8 @fdR.eq_1 iR @hre @Zal @d3 @hk @hrem (ja2 @hga @List.length_map.{0,0})))
   refine At.of (i+1,nx,n,kk,gc+1) ⟨by simp only;omega,by simp only;rw [hj2];exact hRi,by simp only;omega,hnext,by simp only;omega⟩ (by simp only;omega) rfl rfl (Nat.le_refl _) ?_ ?_
   iterate 2 (case _=>(first | exact yU (ja3 hnx.symm @fdR.eq_1 he.symm) | refine yR (ja3 hnx.symm @fdR.eq_1 he.symm) ?_))
  ·have d3:decide ((l:Int)<(n:Int))=false:=decide_eq_false (by omega)
   rw [if_neg c3] at hRi
   repeat (first | refine zR (ja8 @fdR.eq_1 iR @hre @Zal @d3 @hrem @hga @List.length_map.{0,0}) ?_ | exact zU (ja8 @fdR.eq_1 iR @hre @Zal @d3 @hrem @hga @List.length_map.{0,0}))
   refine At.of (i+1,nx,l,k,gc+1) ⟨by simp only;omega,by simp only;rw [hj2];exact hRi,by simp only;omega,hnext,by simp only;omega⟩ (by simp only;omega) rfl rfl (Nat.le_refl _) ?_ ?_
   iterate 2 (case _=>(first | exact yU (ja3 hnx.symm @fdR.eq_1 he.symm) | refine yR (ja3 hnx.symm @fdR.eq_1 he.symm) ?_))
 ·have di:decide ((i:Int)<(t:Int))=false:=decide_eq_false (by omega)
  rw [show t-i=0 by omega,Zrs] at hRi
  rw [hRi]
  repeat (first | refine zR (ja4 @di @fdR.eq_1 iR he.symm) ?_ | exact zU (ja4 @di @fdR.eq_1 iR he.symm))
  try omega
def ZyH (b:List UInt8) (m:List (K3 × Nat)) (A:List Int) (p:Nat):List Int:=if (ZaD b (p:Int)).isSome then A.set p (Ze1 b m (p:Int)) else A
def ZDY (b:List UInt8) (m:List (K3 × Nat)) (p:Nat):List (K3 × Nat):=match ZaD b (p:Int) with
 | some k=>mpt k p m
 | none=>m
theorem ZBq {k:K3} {p:Nat} {e:K3 × Nat}:∀ {m:List (K3 × Nat)},e∈mpt k p m→e=(k,p)∨e∈m
 | [],h=>by simp only [mpt,List.mem_singleton] at h;exact .inl h
 | a::m,h=>by
  rw [mpt] at h
  split at h
  ·rename_i c
   rcases List.mem_cons.1 h with h | h
   ·left;rw [h,c]
   ·exact .inr (List.mem_cons_of_mem _ h)
  ·rcases List.mem_cons.1 h with h | h
   ·right;rw [h];exact List.mem_cons_self ..
   ·exact (ZBq h).imp id (List.mem_cons_of_mem _)
theorem FInv.add {b:List UInt8} {m:List (K3 × Nat)} {A:List Int} {p:Nat} (h:FInv b m A p) (hp:p<b.length):FInv b (ZDY b m p) (ZyH b m A p) (p+1):=by
 refine ⟨?_,?_,?_⟩
 ·unfold ZyH;split
  ·rw [List.length_set];exact h.len
  ·exact h.len
 ·intro e he
  unfold ZDY at he
  split at he
  ·rename_i k hk
   rcases ZBq he with rfl | he
   ·exact ⟨by simp only;omega,hk⟩
   ·obtain ⟨h1,h2⟩:=h.map e he
    exact ⟨by omega,h2⟩
  ·obtain ⟨h1,h2⟩:=h.map e he
   exact ⟨by omega,h2⟩
 ·intro q hq hs
  by_cases c:q=p
  ·subst c
   unfold ZyH
   rw [if_pos hs]
   have e:(A.set q (Ze1 b m (q:Int))).getD q 0=Ze1 b m (q:Int):=by
    have:q<A.length:=by rw [h.len];exact hp
    simp [List.getD,this]
   rw [e]
   rcases ZnU h with h1 | ⟨h1,h2,h3,_⟩
   ·exact .inl h1
   ·exact .inr ⟨h1,h2,h3⟩
  ·have e:(ZyH b m A p).getD q 0=A.getD q 0:=by
    unfold ZyH
    split
    ·simp [List.getD,List.getElem?_set_ne (Ne.symm c)]
    ·rfl
   rw [e]
   exact h.chain q (by omega) hs
theorem FInv.start {b:List UInt8}:FInv b [] (List.replicate b.length 0) 0:=⟨by simp,by simp,fun p hp=>by omega⟩
set_option maxHeartbeats 1000000 in
set_option maxRecDepth 100000 in
theorem ZDZ [Tabs Tryz.prog] (nl:Bool) (b:List UInt8) (hb:b.length≤20000) (t:Nat) (m:List (K3 × Nat)) (A:List Int) (hA:A.length=b.length) (p:Nat) (hp:p<b.length) (hlast:-32769≤Ze1 b m (p:Int)∧Ze1 b m (p:Int)≤20000) :
  HCon Tryz.prog Ze8 [.op 1000 0 0,.sc (.int .i64 (p:Int))] (fdI nl b t m A) (.tup []) (fdO nl b t (ZDY b m p) (ZyH b m A p)) 14:=by
 refine HCon.of' mix Tryz.func91 rfl Tryz.ntmps91 Zj2 Zj3 (by simp) (by simp [AV.gl,AV.gl.glL]) ZBm ?_
 unfold Zfj
 have pso:=ZmH nl b hb t m A ((p:Int)-32768) (by omega) (by omega)
 have hso:ZaD b ((p:Int)-32768)=none:=if_pos (.inl (by omega))
 have hoo:AV.tup [kA ((ZaD b ((p:Int)-32768)).getD (0,0,0)),boo (ZaD b ((p:Int)-32768)).isSome] = .tup [.agg [.sc (.int .u8 0),.sc (.int .u8 0),.sc (.int .u8 0)],boo false]:=by rw [hso];rfl
 rw [hoo] at pso
 have psn:=ZmH nl b hb t m A (p:Int) (by omega) (by omega)
 have ll:=ZlQ nl b hb t m A (p:Int) (by omega) (by omega)
 obtain ⟨e,he⟩:∃ e,e=m.map enA:=⟨_,rfl⟩
 have hre:∀ ρ,ren.renL ρ e=e:=fun ρ=>by rw [he];exact Ze4
 cases hs:ZaD b (p:Int) with
 | none =>
  have ho:AV.tup [kA ((ZaD b (p:Int)).getD (0,0,0)),boo (ZaD b (p:Int)).isSome] = .tup [.agg [.sc (.int .u8 0),.sc (.int .u8 0),.sc (.int .u8 0)],boo false]:=by rw [hs];rfl
  rw [ho] at psn
  have eM:ZDY b m p=m:=by rw [ZDY,hs]
  have eA:ZyH b m A p=A:=by rw [ZyH,hs];rfl
  rw [eM,eA]
  simp only [fdI,fdO,←he] at pso psn ⊢
  repeat (first | refine zS ?_ | exact zT)
  refine Zag [(1000,0),(1001,0),(1002,0)] 2000 pso (by simp) (by simp) ?_ ?_ ?_
  iterate 2 (case _=>(first | exact yU (ja4 @fdR.eq_1 iR @hre @Zal) | refine yR (ja4 @fdR.eq_1 iR @hre @Zal) ?_))
  repeat (first | refine zR (ja4 @fdR.eq_1 iR @hre @Zal) ?_ | exact zU (ja4 @fdR.eq_1 iR @hre @Zal))
  refine Zag [(1000,0),(1001,0),(1002,0)] 3000 psn (by simp) (by simp) ?_ ?_ ?_
  iterate 2 (case _=>(first | exact yU (ja4 @fdR.eq_1 iR @hre @Zal) | refine yR (ja4 @fdR.eq_1 iR @hre @Zal) ?_))
  repeat (first | refine zR (ja4 @fdR.eq_1 iR @hre @Zal) ?_ | exact zU (ja4 @fdR.eq_1 iR @hre @Zal))
 | some k =>
  obtain ⟨x,y,z⟩:=k
  have ho:AV.tup [kA ((ZaD b (p:Int)).getD (0,0,0)),boo (ZaD b (p:Int)).isSome] = .tup [.agg [u8 x,u8 y,u8 z],boo true]:=by rw [hs];rfl
  rw [ho] at psn
  have eM:ZDY b m p=mpt (x,y,z) p m:=by rw [ZDY,hs]
  obtain ⟨la,hla⟩:∃ la,la=Ze1 b m (p:Int):=⟨_,rfl⟩
  rw [←hla] at ll hlast
  have eA:ZyH b m A p=A.set p la:=by rw [ZyH,hs,hla];rfl
  rw [eM,eA]
  have hput:Ztr (.agg [.sc (.int .u8 (x.toNat:Int)),.sc (.int .u8 (y.toNat:Int)),.sc (.int .u8 (z.toNat:Int))]) (.sc (.int .i64 (p:Int))) e=(mpt (x,y,z) p m).map enA:=by rw [he];exact ZBi (k:=(x,y,z))
  have hk:Zfm (.agg #[.int .u8 0,.int .u8 0,.int .u8 0]) (.agg [.sc (.int .u8 (x.toNat:Int)),.sc (.int .u8 (y.toNat:Int)),.sc (.int .u8 (z.toNat:Int))])=True:=ZBk (k:=(x,y,z))
  have hen:Zdy (.agg #[.int .u8 0,.int .u8 0,.int .u8 0]) e=True:=by rw [he];exact Zv6
  have hrem:Int.tmod (p:Int) (A.length:Int)=(p:Int):=Int.tmod_eq_of_lt (by omega) (by omega)
  have hset:(A.take p).map int++(.sc (.int .i64 la)::(A.drop (p+1)).map int)=(A.set p la).map int:=ZAg (by omega)
  have hsl:(A.set p la).length=A.length:=List.length_set
  obtain ⟨e',he'⟩:∃ e',e'=(mpt (x,y,z) p m).map enA:=⟨_,rfl⟩
  rw [←he'] at hput
  simp only [fdI,fdO,←he,←he'] at pso psn ll ⊢
  repeat (first | refine zS ?_ | exact zT)
  refine Zag [(1000,0),(1001,0),(1002,0)] 2000 pso (by simp) (by simp) ?_ ?_ ?_
  iterate 2 (case _=>(first | exact yU (ja4 @fdR.eq_1 iR @hre @Zal) | refine yR (ja4 @fdR.eq_1 iR @hre @Zal) ?_))
  repeat (first | refine zR (ja4 @fdR.eq_1 iR @hre @Zal) ?_ | exact zU (ja4 @fdR.eq_1 iR @hre @Zal))
  refine Zag [(1000,0),(1001,0),(1002,0)] 3000 psn (by simp) (by simp) ?_ ?_ ?_
  iterate 2 (case _=>(first | exact yU (ja4 @fdR.eq_1 iR @hre @Zal) | refine yR (ja4 @fdR.eq_1 iR @hre @Zal) ?_))
  repeat (first | refine zR (ja6 @fdR.eq_1 iR @hre @Zal @List.length_map.{0,0} @hrem) ?_ | exact zU (ja6 @fdR.eq_1 iR @hre @Zal @List.length_map.{0,0} @hrem))
  refine Zag [(1000,0),(1001,0),(1002,0)] 4000 ll (by simp) (by simp) ?_ ?_ ?_
  iterate 2 (case _=>(first | exact yU (ja4 @fdR.eq_1 iR @hre @Zal) | refine yR (ja4 @fdR.eq_1 iR @hre @Zal) ?_))
  repeat (first | refine zR (ja8 @fdR.eq_1 iR @hre @Zal @List.length_map.{0,0} @hrem @hset (ja4 @hen @hk @hput @hsl)) ?_ | exact zU (ja8 @fdR.eq_1 iR @hre @Zal @List.length_map.{0,0} @hrem @hset (ja4 @hen @hk @hput @hsl)))
def Zl2 (v:Nat):Nat:=(List.range 17).countP fun k=>decide (2^k≤v)
set_option maxRecDepth 100000 in
theorem ZBr {i:Nat} (h:i<256):([0,1,2,2,3,3,3,3,4,4,4,4,4,4,4,4,5,5,5,5,5,5,5,5,5,5,5,5,5,5,5,5,6,6,6,6,6,6,6,6,6,6,6,6,6,6,6,6,6,6,6,6,6,6,6,6,6,6,6,6,6,6,6,6,7,7,7,7,7,7,7,7,7,7,7,7,7,7,7,7,7,7,7,7,7,7,7,7,7,7,7,7,7,7,7,7,7,7,7,7,7,7,7,7,7,7,7,7,7,7,7,7,7,7,7,7,7,7,7,7,7,7,7,7,7,7,7,7,8,8,8,8,8,8,8,8,8,8,8,8,8,8,8,8,8,8,8,8,8,8,8,8,8,8,8,8,8,8,8,8,8,8,8,8,8,8,8,8,8,8,8,8,8,8,8,8,8,8,8,8,8,8,8,8,8,8,8,8,8,8,8,8,8,8,8,8,8,8,8,8,8,8,8,8,8,8,8,8,8,8,8,8,8,8,8,8,8,8,8,8,8,8,8,8,8,8,8,8,8,8,8,8,8,8,8,8,8,8,8,8,8,8,8,8,8,8,8,8,8,8,8,8,8,8,8,8]:List UInt8).getD i 0=UInt8.ofNat (Zl2 i) :=
 (by decide +kernel:∀ i,i<256→([0,1,2,2,3,3,3,3,4,4,4,4,4,4,4,4,5,5,5,5,5,5,5,5,5,5,5,5,5,5,5,5,6,6,6,6,6,6,6,6,6,6,6,6,6,6,6,6,6,6,6,6,6,6,6,6,6,6,6,6,6,6,6,6,7,7,7,7,7,7,7,7,7,7,7,7,7,7,7,7,7,7,7,7,7,7,7,7,7,7,7,7,7,7,7,7,7,7,7,7,7,7,7,7,7,7,7,7,7,7,7,7,7,7,7,7,7,7,7,7,7,7,7,7,7,7,7,7,8,8,8,8,8,8,8,8,8,8,8,8,8,8,8,8,8,8,8,8,8,8,8,8,8,8,8,8,8,8,8,8,8,8,8,8,8,8,8,8,8,8,8,8,8,8,8,8,8,8,8,8,8,8,8,8,8,8,8,8,8,8,8,8,8,8,8,8,8,8,8,8,8,8,8,8,8,8,8,8,8,8,8,8,8,8,8,8,8,8,8,8,8,8,8,8,8,8,8,8,8,8,8,8,8,8,8,8,8,8,8,8,8,8,8,8,8,8,8,8,8,8,8,8,8,8,8,8]:List UInt8).getD i 0=UInt8.ofNat (Zl2 i)) i h
theorem ZuX {v:Nat}:Zl2 v≤17:=Nat.le_trans List.countP_le_length (by simp)
theorem Zqp {v:Nat} (h:v<256):Zl2 v≤8:=(by decide +kernel:∀ i,i<256→Zl2 i≤8) v h
theorem Zyq {v:Nat} (h:256≤v) (h2:v<65536):Zl2 v=8+Zl2 (v / 256):=by
 have e:List.range 17=List.range 8++(List.range 9).map (8+·):=by decide
 have e9:List.range 17=List.range 9++(List.range 8).map (9+·):=by decide
 have h1:Zl2 v=8+((List.range 9).map (8+·)).countP (fun k=>decide (2^k≤v)):=by
  unfold Zl2
  rw [e,List.countP_append]
  congr 1
  rw [List.countP_eq_length.2]
  ·simp
  ·intro k hk
   have hk:=List.mem_range.1 hk
   have:2^k≤2^8:=Nat.pow_le_pow_right (by omega) (by omega)
   simp only [decide_eq_true_eq];omega
 have h3:Zl2 (v / 256)=(List.range 9).countP (fun k=>decide (2^k≤v / 256)):=by
  unfold Zl2
  rw [e9,List.countP_append]
  have:((List.range 8).map (9+·)).countP (fun k=>decide (2^k≤v / 256))=0:=by
   rw [List.countP_eq_zero]
   intro k hk
   rw [List.mem_map] at hk
   obtain ⟨j,_,rfl⟩:=hk
   have:2^9≤2^(9+j):=Nat.pow_le_pow_right (by omega) (by omega)
   simp only [decide_eq_true_eq];omega
  omega
 rw [h1,h3,List.countP_map]
 congr 1
 refine List.countP_congr fun k hk=>?_
 simp only [Function.comp,decide_eq_true_eq]
 rw [Nat.pow_add,show (2:Nat)^8=256 from rfl,Nat.le_div_iff_mul_le (by omega),Nat.mul_comm]
set_option maxHeartbeats 1000000 in
set_option maxRecDepth 100000 in
theorem Zs9 [Tabs Tryz.prog] (v:Nat) (hv:v<65536):Con Tryz.prog ZmX [.sc (.int .u64 (v:Int))] (int (Zl2 v:Int)):=by
 refine Con.of' mix Tryz.func152 rfl Tryz.ntmps152 Zsw Zsx (by simp) rfl rfl ?_
 unfold Zm6
 have d1:decide ((4294967296:Int)≤(v:Int))=false:=decide_eq_false (by omega)
 have d2:decide ((65536:Int)≤(v:Int))=false:=decide_eq_false (by omega)
 by_cases c:256≤v
 ·have d3:decide ((256:Int)≤(v:Int))=true:=decide_eq_true (by omega)
  have hs:=Zyq c hv
  obtain ⟨w,hw⟩:∃ w,w=v / 256:=⟨_,rfl⟩
  have hw2:w<256:=by omega
  have ht:=ZBr hw2
  have hbl:=Zqp hw2
  have hu:((UInt8.ofNat (Zl2 w)).toNat:Int)=(Zl2 w:Int):=by rw [UInt8.toNat_ofNat'];omega
  rw [hs,←hw]
  obtain ⟨y,hy⟩:∃ y,y=Zl2 w:=⟨_,rfl⟩
  rw [←hy] at hbl hu ht ⊢
  have hwu:IntKind.u8.wrap (w:Int)=(w:Int):=Zmf (by omega) (by omega)
  have ef:((v:Int).fdiv (2^8))=(w:Int):=by rw [hw];exact (Int.fdiv_eq_ediv_of_nonneg _ (by omega)).trans (by norm_cast)
  repeat (first | refine xR (ja7 @d1 @d2 @d3 hw.symm @hwu @ht @hu) ?_ | exact xU (ja7 @d1 @d2 @d3 hw.symm @hwu @ht @hu))
 ·have d3:decide ((256:Int)≤(v:Int))=false:=decide_eq_false (by omega)
  have ht:=ZBr (i:=v) (by omega)
  have hbl:=Zqp (v:=v) (by omega)
  have hu:((UInt8.ofNat (Zl2 v)).toNat:Int)=(Zl2 v:Int):=by rw [UInt8.toNat_ofNat'];omega
  obtain ⟨y,hy⟩:∃ y,y=Zl2 v:=⟨_,rfl⟩
  rw [←hy] at hbl hu ht ⊢
  have hwu:IntKind.u8.wrap (v:Int)=(v:Int):=Zmf (by omega) (by omega)
  repeat (first | refine xR (ja6 @d1 @d2 @d3 @hwu @ht @hu) ?_ | exact xU (ja6 @d1 @d2 @d3 @hwu @ht @hu))
theorem Zyr [Tabs Tryz.prog] (v:Nat) (hv:v<65536):Con Tryz.prog Zp9 [.sc (.int .u64 (v:Int))] (int (Zl2 v:Int)):=by
 refine Con.of' mix Tryz.func146 rfl Tryz.ntmps146 Zx2 Zx3 (by simp) rfl rfl ?_
 unfold Zqd
 repeat (first | refine xS ?_ | exact xT)
 refine Zay _ (.inl ⟨rfl,Zs9 v hv⟩) ?_
 repeat (first | refine xS ?_ | exact xT)
def ZbE (v h:Nat):Nat:=Zl2 v-1-h
def ZiQ (v h:Nat):Nat:=ZbE v h*2^h+v / 2^ZbE v h
theorem ZD0 {v w:Nat}:((v:Int).fdiv (2^w))=((v / 2^w:Nat):Int):=by
 rw [Int.fdiv_eq_ediv_of_nonneg _ (Int.le_of_lt (Int.pow_pos (by omega)))]
 norm_cast
set_option maxRecDepth 100000 in
theorem Zqq [Tabs Tryz.prog] (v:Nat) (hv:v<65536) (h:Nat) (hh:h=1∨h=2):Con Tryz.prog ZdN [.sc (.int .i64 (v:Int)),.sc (.int .i64 (h:Int))] (.agg [.sc (.int .i64 (ZiQ v h:Int)),.sc (.int .i64 (v:Int)),.sc (.int .i64 (ZbE v h:Int))]):=by
 refine Con.of' mix Tryz.func123 rfl Tryz.ntmps123 ZlD ZlE (by simp) rfl rfl ?_
 unfold ZgM
 have wu:IntKind.u64.wrap (v:Int)=(v:Int):=Zbi (by omega) (by omega)
 have hb:=ZuX (v:=v)
 obtain ⟨l,hl⟩:∃ l,l=ZbE v h:=⟨_,rfl⟩
 have hmx:(if (0:Int)<(Zl2 v:Int)-1-(h:Int) then (Zl2 v:Int)-1-(h:Int) else 0)=(l:Int):=by
  rw [hl,ZbE]
  split <;> omega
 have hll:l≤17:=by rw [hl,ZbE];omega
 obtain ⟨q,hq⟩:∃ q,q=v / 2^l:=⟨_,rfl⟩
 have hql:q≤v:=by rw [hq];exact Nat.div_le_self _ _
 have eq1:((v:Int).fdiv (2^l))=(q:Int):=by rw [hq];exact ZD0
 have hN:ZiQ v h=l*2^h+q:=by rw [ZiQ,←hl,←hq]
 rw [hN,←hl]
 clear eq1
 repeat (first | refine xR @wu ?_ | exact xU @wu)
 refine Zay _ (.inl ⟨rfl,Zyr v hv⟩) ?_
 rcases hh with rfl | rfl
 ·have hmx:(if (0:Int)<(Zl2 v:Int)-1-1 then (Zl2 v:Int)-1-1 else 0)=(l:Int):=hmx
  repeat (first | refine xR (ja2 @hmx hq.symm) ?_ | exact xU (ja2 @hmx hq.symm))
 ·have hmx:(if (0:Int)<(Zl2 v:Int)-1-2 then (Zl2 v:Int)-1-2 else 0)=(l:Int):=hmx
  repeat (first | refine xR (ja2 @hmx hq.symm) ?_ | exact xU (ja2 @hmx hq.symm))
def pcA (p:Nat × Nat):AV:=.agg [.sc (.int .u16 (p.1:Int)),.sc (.int .u16 (p.2:Int))]
def ZkQ (p:Nat × Nat):Prop:=(p.2=0∧p.1<256)∨(0<p.2∧p.2≤32768∧3≤p.1∧p.1≤258)
def syA (s:Nat × Nat × Nat):AV:=.agg [.sc (.int .i64 (s.1:Int)),.sc (.int .i64 (s.2.1:Int)),.sc (.int .i64 (s.2.2:Int))]
def Zig (p:Nat × Nat):Nat × Nat × Nat:=if p.2=0 then (p.1,0,0) else if p.1=258 then (285,0,0) else (ZiQ (p.1-3) 2+257,p.1-3,ZbE (p.1-3) 2)
def Znd (p:Nat × Nat):Nat × Nat × Nat:=(ZiQ (p.2-1) 1,p.2-1,ZbE (p.2-1) 1)
theorem Zec {l:List (Nat × Nat)}:AV.free.freeL (l.map pcA)=true:=Zba.2 fun x hx=>by
 obtain ⟨p,_,rfl⟩:=List.mem_map.1 hx;rfl
theorem ZuY [Tabs Tryz.prog] (p:Nat × Nat):Con Tryz.prog ZbT [pcA p] (boo (decide (0<p.2))):=by
 refine Con.of' mix Tryz.func84 rfl Tryz.ntmps84 Zi9 Zja (by simp) rfl rfl ?_
 unfold ZeV
 have e:decide ((0:Int)<(p.2:Int))=decide (0<p.2):=by simp only [decide_eq_decide];omega
 repeat (first | refine xR (ja2 @pcA.eq_1 @e) ?_ | exact xU (ja2 @pcA.eq_1 @e))
set_option maxRecDepth 100000 in
theorem Zta [Tabs Tryz.prog] (p:Nat × Nat) (hp:ZkQ p):Con Tryz.prog Zci [pcA p] (syA (Zig p)):=by
 refine Con.of' mix Tryz.func83 rfl Tryz.ntmps83 Zh6 Zh7 (by simp) rfl rfl ?_
 unfold Zd6
 have ir:=ZuY p
 obtain ⟨v,b⟩:=p
 simp only [ZkQ] at hp
 by_cases c:b=0
 ·subst c
  have wi:IntKind.i64.wrap (v:Int)=(v:Int):=ZbI (by omega) (by omega)
  rw [show decide (0<(v,0).2)=false from rfl] at ir
  have hr:syA (Zig (v,0)) = .agg [.sc (.int .i64 (v:Int)),.sc (.int .i64 0),.sc (.int .i64 0)]:=rfl
  rw [hr]
  repeat (first | refine xR @pcA.eq_1 ?_ | exact xU @pcA.eq_1)
  refine Zay _ (.inl ⟨rfl,ir⟩) ?_
  repeat (first | refine xR (ja2 @pcA.eq_1 @wi) ?_ | exact xU (ja2 @pcA.eq_1 @wi))
 ·rw [show decide (0<(v,b).2)=true from decide_eq_true (by simp only;omega)] at ir
  by_cases c2:v=258
  ·subst c2
   have hr:syA (Zig (258,b)) = .agg [.sc (.int .i64 285),.sc (.int .i64 0),.sc (.int .i64 0)]:=by simp only [Zig,if_neg c,if_true];rfl
   have d2:decide (((258:Nat):Int)=258)=true:=rfl
   rw [hr]
   repeat (first | refine xR @pcA.eq_1 ?_ | exact xU @pcA.eq_1)
   refine Zay _ (.inl ⟨rfl,ir⟩) ?_
   repeat (first | refine xR (ja2 @pcA.eq_1 @d2) ?_ | exact xU (ja2 @pcA.eq_1 @d2))
  ·have d2:decide ((v:Int)=258)=false:=decide_eq_false (by omega)
   have hv3:3≤v∧v<258:=by omega
   obtain ⟨w,hw⟩:∃ w,w=v-3:=⟨_,rfl⟩
   have ew:(v:Int)-3=(w:Int):=by omega
   have hr:syA (Zig (v,b)) = .agg [.sc (.int .i64 ((ZiQ w 2+257:Nat):Int)),.sc (.int .i64 (w:Int)),.sc (.int .i64 (ZbE w 2:Int))]:=by simp only [Zig,if_neg c,if_neg c2,←hw];rfl
   have wi:IntKind.i64.wrap (v:Int)=(v:Int):=ZbI (by omega) (by omega)
   have sy:=Zqq w (by omega) 2 (.inr rfl)
   have hsl:ZbE w 2≤17:=by have:=ZuX (v:=w);rw [ZbE];omega
   have hsn:ZiQ w 2≤1000:=by
    have:w / 2^ZbE w 2≤w:=Nat.div_le_self _ _
    rw [ZiQ];omega
   obtain ⟨N,hN⟩:∃ N,N=ZiQ w 2:=⟨_,rfl⟩
   obtain ⟨l,hl⟩:∃ l,l=ZbE w 2:=⟨_,rfl⟩
   rw [←hN,←hl] at sy hr
   rw [←hN] at hsn
   rw [hr]
   repeat (first | refine xR @pcA.eq_1 ?_ | exact xU @pcA.eq_1)
   refine Zay _ (.inl ⟨rfl,ir⟩) ?_
   repeat (first | refine xR (ja4 @pcA.eq_1 @d2 @wi @ew) ?_ | exact xU (ja4 @pcA.eq_1 @d2 @wi @ew))
   refine Zay _ (.inl ⟨rfl,sy⟩) ?_
   repeat (first | refine xS ?_ | exact xT)
set_option maxRecDepth 100000 in
theorem Zqr [Tabs Tryz.prog] (p:Nat × Nat) (h1:0<p.2) (h2:p.2≤32768):Con Tryz.prog Zcb [pcA p] (syA (Znd p)):=by
 refine Con.of' mix Tryz.func85 rfl Tryz.ntmps85 Zhq Zhr (by simp) rfl rfl ?_
 unfold ZdE
 obtain ⟨v,b⟩:=p
 simp only at h1 h2
 obtain ⟨w,hw⟩:∃ w,w=b-1:=⟨_,rfl⟩
 have ew:(b:Int)-1=(w:Int):=by omega
 have wi:IntKind.i64.wrap (b:Int)=(b:Int):=ZbI (by omega) (by omega)
 have sy:=Zqq w (by omega) 1 (.inl rfl)
 have hr:syA (Znd (v,b)) = .agg [.sc (.int .i64 (ZiQ w 1:Int)),.sc (.int .i64 (w:Int)),.sc (.int .i64 (ZbE w 1:Int))]:=by simp only [Znd,←hw];rfl
 rw [hr]
 repeat (first | refine xR (ja3 @pcA.eq_1 @wi @ew) ?_ | exact xU (ja3 @pcA.eq_1 @wi @ew))
 refine Zay _ (.inl ⟨rfl,sy⟩) ?_
 repeat (first | refine xS ?_ | exact xT)
end Go.Proofs.YtbcncdpaigljeaaGreatDoor.Aw
namespace Go.Proofs.YtbcncdpaigljeaaGreatDoor.Aw
open Go
set_option linter.unusedSimpArgs false
set_option linter.unusedVariables false
set_option linter.defProp false
def ZEE (k:Nat):List AO→List (Nat × Nat × AO)
 | []=>[]
 | a::l=>(k,0,a)::ZEE (k+1) l
theorem ZD1 {k:Nat}:ZEE k []=[]:=rfl
theorem ZBs {k:Nat} {a:AO} {l:List AO}:ZEE k (a::l)=(k,0,a)::ZEE (k+1) l:=rfl
theorem Zqs:∀ (l:List AO) (k id:Nat),Zc3 (ZEE k l) id=if k≤id then (l[id-k]?).map (fun o=>(0,o)) else none
 | [],k,id=>by simp [ZEE,Zc3]
 | a::l,k,id=>by
  rw [ZEE,Zc3]
  by_cases c:id=k
  ·rw [if_pos c,if_pos (by omega),c];simp
  ·rw [if_neg c,Zqs l (k+1) id]
   by_cases d:k≤id
   ·rw [if_pos d,if_pos (by omega),show id-k=(id-(k+1))+1 by omega];simp
   ·rw [if_neg d,if_neg (by omega)]
theorem ZBt {a b c d:AO} {l:List AO}:ZpP (a::b::c::d::l)=Zc3 (ZEE 1000 (a::b::c::d::l)):=by
 funext id
 rw [Zqs,ZpP]
theorem ZIf {p q r s:Nat × Nat} {hs:List (Nat × Nat)} {D c:Nat}:rho (p::q::r::s::hs) D c 1003 0=s:=by simp [rho,Zbt]
theorem ZGu {p q r s:Nat × Nat} {hs:List (Nat × Nat)} {D c g:Nat}:rho (p::q::r::s::hs) D c 1003 (g+1)=(s.1,c+(g+1)):=by simp [rho,Zbt]
theorem ZIg {p q r s t:Nat × Nat} {hs:List (Nat × Nat)} {D c:Nat}:rho (p::q::r::s::t::hs) D c 1004 0=t:=by simp [rho,Zbt]
theorem ZGv {p q r s t:Nat × Nat} {hs:List (Nat × Nat)} {D c g:Nat}:rho (p::q::r::s::t::hs) D c 1004 (g+1)=(t.1,c+(g+1)):=by simp [rho,Zbt]
theorem ZIh {p q r s t u:Nat × Nat} {hs:List (Nat × Nat)} {D c:Nat}:rho (p::q::r::s::t::u::hs) D c 1005 0=u:=by simp [rho,Zbt]
theorem ZGw {p q r s t u:Nat × Nat} {hs:List (Nat × Nat)} {D c g:Nat}:rho (p::q::r::s::t::u::hs) D c 1005 (g+1)=(u.1,c+(g+1)):=by simp [rho,Zbt]
theorem ZIi {p q r s:Nat × Nat} {D c id g:Nat} (h:1004≤id):rho [p,q,r,s] D c id g=(D+id,c+g):=Zc4 (by simp [Zbt];omega)
theorem ZIj {p q r s t:Nat × Nat} {D c id g:Nat} (h:1005≤id):rho [p,q,r,s,t] D c id g=(D+id,c+g):=Zc4 (by simp [Zbt];omega)
theorem ZIk {p q r s t u:Nat × Nat} {D c id g:Nat} (h:1006≤id):rho [p,q,r,s,t,u] D c id g=(D+id,c+g):=Zc4 (by simp [Zbt];omega)
def hR:=And.intro (And.intro @ZBt (And.intro @ZD1 @ZBs)) <| And.intro (And.intro (And.intro @ZIf @ZGu) (And.intro @ZIg @ZGv)) <| And.intro (And.intro @ZIh @ZGw) (And.intro @ZIi (And.intro @ZIj @ZIk))
end Go.Proofs.YtbcncdpaigljeaaGreatDoor.Aw
namespace Go.Proofs.YtbcncdpaigljeaaGreatDoor.Aw
open Go
set_option linter.unusedSimpArgs false
set_option linter.unusedVariables false
def Zo1 (n:Nat):Nat:=if n≤16000 then n else 256
set_option maxRecDepth 100000 in
theorem ZuZ [Tabs Tryz.prog] (nl:Bool) (b:List UInt8) (hb:b.length≤20000):HCon Tryz.prog ZfP [.sl nl none (b.map u8)] [] (.op 11 3 0)
  [(11,3,.row false [.sl nl none (b.map u8),.mp 5 1,.own 9 2 none 0 b.length,.sc (.int .i64 (Zo1 b.length:Int))]),(5,1,.row false [.tup []]),(9,2,.row false ((List.replicate b.length (0:Int)).map int))] 4:=by
 refine HCon.of' mix Tryz.func89 rfl Tryz.ntmps89 ZkG ZkH (by simp) (by simp only [AV.gl.glL,AV.gl,and_true];exact Zae _ _ Zak) (by simp) ?_
 unfold Zf6
 obtain ⟨n,hn⟩:∃ n,n=b.length:=⟨_,rfl⟩
 have hmin:(if (32768:Int)<(n:Int) then (32768:Int) else (n:Int))=(n:Int):=if_neg (by omega)
 have hz:(List.replicate n [AV.sc (.int .i64 0)]).flatten=(List.replicate n (0:Int)).map int:=by
  rw [List.map_replicate,List.flatten_replicate_singleton]
  rfl
 rw [←hn]
 by_cases c:n≤16000
 ·have d:decide ((n:Int)≤16000)=true:=decide_eq_true (by omega)
  have ht:Zo1 n=n:=if_pos c
  rw [ht]
  repeat (first | refine zR (ja5 @List.length_map.{0,0} hn.symm @hmin @d @hz) ?_ | exact zU (ja5 @List.length_map.{0,0} hn.symm @hmin @d @hz))
 ·have d:decide ((n:Int)≤16000)=false:=decide_eq_false (by omega)
  have ht:Zo1 n=256:=if_neg c
  rw [ht]
  repeat (first | refine zR (ja5 @List.length_map.{0,0} hn.symm @hmin @d @hz) ?_ | exact zU (ja5 @List.length_map.{0,0} hn.symm @hmin @d @hz))
def pcC (l:List (Nat × Nat)):List AV:=l.flatMap fun p=>[.sc (.int .u16 (p.1:Int)),.sc (.int .u16 (p.2:Int))]
theorem Zqt {a b:List (Nat × Nat)}:pcC (a++b)=pcC a++pcC b:=by simp [pcC]
theorem ZjG:∀ {l:List (Nat × Nat)},(pcC l).length=l.length*2
 | []=>rfl
 | p::l=>by rw [show pcC (p::l)=[.sc (.int .u16 (p.1:Int)),.sc (.int .u16 (p.2:Int))]++pcC l from rfl,List.length_append,ZjG];simp;omega
theorem ZnV {l:List (Nat × Nat)}:AV.free.freeL (pcC l)=true:=Zba.2 fun x hx=>by
 simp only [pcC,List.mem_flatMap,List.mem_cons,List.not_mem_nil,or_false] at hx
 obtain ⟨p,_,rfl | rfl⟩:=hx <;> rfl
theorem ZaO {ρ:Nat→Nat→Nat × Nat} {l:List (Nat × Nat)}:ren.renL ρ (pcC l)=pcC l:=Zbb ρ _ ZnV
def ZnH (l:List UInt8):List (Nat × Nat):=l.map fun c=>(c.toNat,0)
set_option maxHeartbeats 1000000 in
set_option maxRecDepth 100000 in
theorem Ztb [Tabs Tryz.prog] (nl:Bool) (b:List UInt8) (hb:b.length≤20000) (s e:Nat) (hs:s≤e) (he:e≤b.length) (P:List (Nat × Nat)) (N:Nat) (hN:N=P.length) (hP:N≤20000) :
  HCon Tryz.prog Zbg [.sc (.int .i64 (e:Int)),.op 1000 0 0,.op 1001 0 0,.op 1002 0 0]
   [.row false [.sl nl none (b.map u8)],.row false [.sc (.int .i64 (s:Int))],.row false [.own 1003 0 (some 2) 0 N],.row (nl0 N) (pcC P)] (.tup [])
   [(1000,0,.row false [.sl nl none (b.map u8)]),(1001,0,.row false [.sc (.int .i64 (s:Int))]),(1002,0,.row false [.own 1003 30000 (some 2) 0 (N+(e-s))]),(1003,30000,.row (nl0 (N+(e-s))) (pcC (P++ZnH ((b.take e).drop s))))] 30001:=by
 refine HCon.of' mix Tryz.func49 rfl Tryz.ntmps49 ZjY ZjZ (by simp) (by simp [AV.gl,AV.gl.glL]) ?_ ?_
 ·intro n cells h
  simp only [List.mem_cons,AO.row.injEq,List.not_mem_nil,or_false] at h
  obtain ⟨-,rfl⟩ | ⟨-,rfl⟩ | ⟨-,rfl⟩ | ⟨-,rfl⟩:=h
  ·simp only [AV.gl.glL,AV.gl,and_true];exact Zae _ _ Zak
  ·simp [AV.gl.glL,AV.gl]
  ·simp [AV.gl.glL,AV.gl]
  ·exact Zae _ _ ZnV
 unfold Zfh
 obtain ⟨seg,hseg⟩:∃ seg,seg=(b.take e).drop s:=⟨_,rfl⟩
 have hsl:seg.length=e-s:=by rw [hseg,List.length_drop,List.length_take];omega
 obtain ⟨M,hM⟩:∃ M,M=e-s:=⟨_,rfl⟩
 rw [←hM] at hsl
 have hcut:((b.map u8).take e).drop s=seg.map u8:=by rw [hseg,List.map_drop,List.map_take]
 rw [←hseg,←hM]
 repeat (first | refine zR (ja4 hR @List.length_map.{0,0} hseg.symm @hsl) ?_ | exact zU (ja4 hR @List.length_map.{0,0} hseg.symm @hsl))
 refine SWp.loop (α:=Nat × Nat × Nat) (fun x=>mk 23 x.2.2 [(3,.op 1002 0 0),(10,.sl nl none (seg.map u8)),(11,int M),(12,int x.1)] [(1000,0,.row false [.sl nl none (b.map u8)]),(1001,0,.row false [.sc (.int .i64 (s:Int))]),(1002,0,.row false [.own 1003 x.2.1 (some 2) 0 (N+x.1)]),(1003,x.2.1,.row (nl0 (N+x.1)) (pcC (P++ZnH (seg.take x.1))))])
  (fun x=>x.1≤M∧x.2.2≤1+x.1) (fun x=>M-x.1) (0,0,1) ⟨Nat.zero_le _,by simp⟩ (Zau rfl ?_ ?_ ?_) ?_
 ·exact Nat.le_refl _
 iterate 2 (case _=>(first | exact yU (ja2 hR @ZnH.eq_1) | refine yR (ja2 hR @ZnH.eq_1) ?_))
 rintro ⟨k,g,gc⟩ ⟨hk,hgc⟩ -
 simp only at hk hgc
 obtain ⟨Q,hQ⟩:∃ Q,Q=P++ZnH (seg.take k):=⟨_,rfl⟩
 have hQl:Q.length=N+k:=by rw [hQ,List.length_append,ZnH,List.length_map,List.length_take];omega
 simp only [←hQ]
 by_cases ck:k<M
 ·have dk:decide ((k:Int)<(M:Int))=true:=decide_eq_true (by omega)
  have hg:(seg.map u8).getD k .junk=u8 (seg.getD k 0):=ZqX (by omega)
  obtain ⟨c,hc⟩:∃ c,c=seg.getD k 0:=⟨_,rfl⟩
  rw [←hc] at hg
  have hwr:IntKind.u16.wrap (c.toNat:Int)=(c.toNat:Int):=by
   have:=c.toNat_lt
   simp only [IntKind.wrap,IntKind.bits,IntKind.signed]
   simp
   omega
  have hst:seg.take (k+1)=seg.take k++[c]:=by rw [ZiP (d:=0) (by omega),hc]
  have hnx:P++ZnH (seg.take (k+1))=Q++[(c.toNat,0)]:=by rw [hst,hQ];simp [ZnH]
  have hpc:pcC Q++[AV.sc (.int .u16 (c.toNat:Int)),AV.sc (.int .u16 0)]=pcC (Q++[(c.toNat,0)]):=by rw [Zqt];rfl
  have hpl:(pcC Q).length=(N+k)*2:=by rw [ZjG,hQl]
  have hcl:=c.toNat_lt
  have hfl:List.flatMap (fun x=>(Zaq x).getD []) [AV.agg [AV.sc (Value.int IntKind.u16 (c.toNat:Int)),AV.sc (Value.int IntKind.u16 0)]]=[AV.sc (Value.int IntKind.u16 (c.toNat:Int)),AV.sc (Value.int IntKind.u16 0)]:=rfl
  have hnl:nl0 (N+(k+1))=false:=Zcg (by omega)
  repeat (first | refine zR (ja5 @dk @List.length_map.{0,0} @hsl @hg @hwr) ?_ | exact zU (ja5 @dk @List.length_map.{0,0} @hsl @hg @hwr))
  refine ⟨⟨_,rfl,rfl⟩,⟨fun w hw=>⟨_,List.mem_singleton.1 hw⟩,hpl.symm,by omega,by omega⟩,?_⟩
  repeat (first | refine zR (ja2 @hfl @hpc) ?_ | exact zU (ja2 @hfl @hpc))
  refine At.of (k+1,gc,gc+1) ⟨by simp only;omega,by simp only;omega⟩ (by simp only;omega) rfl rfl (Nat.le_refl _) ?_ ?_
  iterate 2 (case _=>(first | exact yU (ja3 @hnx @hnl @Nat.add_assoc) | refine yR (ja3 @hnx @hnl @Nat.add_assoc) ?_))
 ·have dk:decide ((k:Int)<(M:Int))=false:=decide_eq_false (by omega)
  obtain rfl:k=M:=by omega
  rw [List.take_of_length_le (by omega)] at hQ
  rw [←hQ]
  iterate 4 (first | refine zR @dk ?_ | exact zU @dk)
  refine SWp.le (Zau (N:=23) (gc:=30000) (l:=[]) (h:=[(1000,0,.row false [.sl nl none (b.map u8)]),(1001,0,.row false [.sc (.int .i64 (s:Int))]),(1002,0,.row false [.own 1003 g (some 2) 0 (N+k)]),(1003,g,.row (nl0 (N+k)) (pcC Q))]) rfl ?_ ?_ ?_) ?_
  ·(first | exact yT | refine yS ?_)
   omega
  iterate 2 (case _=>(first | exact yT | refine yS ?_))
  refine SWp.renew 1003 g (o:=.row (nl0 (N+k)) (pcC Q)) (by (first | exact yT | refine yS ?_)) ?_
  refine SWp.le (Zau (N:=23) (gc:=30001) (l:=[]) (h:=[(1000,0,.row false [.sl nl none (b.map u8)]),(1001,0,.row false [.sc (.int .i64 (s:Int))]),(1002,0,.row false [.own 1003 30000 (some 2) 0 (N+k)]),(1003,30000,.row (nl0 (N+k)) (pcC Q))]) rfl ?_ ?_ ?_) ?_
  iterate 3 (case _=>(first | exact yU (ja4 @Zbm @Zbn @ZaO iR) | refine yR (ja4 @Zbm @Zbn @ZaO iR) ?_))
  repeat (first | refine zR (ja3 iR hR @ZaO) ?_ | exact zU (ja3 iR hR @ZaO))
abbrev p2I (nl:Bool) (b:List UInt8) (s:Nat) (P:List (Nat × Nat)):List AO:=[.row false [.clo Zbg [.op 1003 0 0,.op 1002 0 0,.op 1001 0 0]],.row false [.own 1004 0 (some 2) 0 P.length],.row false [.sc (.int .i64 (s:Int))],.row false [.sl nl none (b.map u8)],.row (nl0 P.length) (pcC P)]
abbrev p2O (nl:Bool) (b:List UInt8) (s:Nat) (P:List (Nat × Nat)) (m:Nat):List (Nat × Nat × AO):=[(1000,0,.row false [.clo Zbg [.op 1003 0 0,.op 1002 0 0,.op 1001 0 0]]),(1001,0,.row false [.own 1004 m (some 2) 0 P.length]),(1002,0,.row false [.sc (.int .i64 (s:Int))]),(1003,0,.row false [.sl nl none (b.map u8)]),(1004,m,.row (nl0 P.length) (pcC P))]
def ZyI (b:List UInt8) (P:List (Nat × Nat)) (s f l k:Nat):List (Nat × Nat):=P++ZnH ((b.take f).drop s)++[(l,k)]
set_option maxHeartbeats 1000000 in
set_option maxRecDepth 100000 in
theorem ZBu [Tabs Tryz.prog] (nl:Bool) (b:List UInt8) (hb:b.length≤20000) (s f l k:Nat) (hs:s≤f) (hf:f≤b.length) (P:List (Nat × Nat)) (hP:P.length≤s) (hl:l≤258) (hk:k≤32768) :
  HCon Tryz.prog Zbh [.sc (.int .i64 (f:Int)),.sc (.int .i64 (l:Int)),.sc (.int .i64 (k:Int)),.op 1000 0 0,.op 1001 0 0,.op 1002 0 0]
   (p2I nl b s P) (.tup []) (p2O nl b (f+l) (ZyI b P s f l k) 30002) 30003:=by
 refine HCon.of' mix Tryz.func51 rfl Tryz.ntmps51 Zj0 Zj1 (by simp) (by simp [AV.gl,AV.gl.glL]) ?_ ?_
 ·intro n cells h
  simp only [List.mem_cons,AO.row.injEq,List.not_mem_nil,or_false] at h
  obtain ⟨-,rfl⟩ | ⟨-,rfl⟩ | ⟨-,rfl⟩ | ⟨-,rfl⟩ | ⟨-,rfl⟩:=h
  ·simp [AV.gl.glL,AV.gl]
  ·simp [AV.gl.glL,AV.gl]
  ·simp [AV.gl.glL,AV.gl]
  ·simp only [AV.gl.glL,AV.gl,and_true];exact Zae _ _ Zak
  ·exact Zae _ _ ZnV
 unfold Zfi
 obtain ⟨N,hN⟩:∃ N,N=P.length:=⟨_,rfl⟩
 have p1:=Ztb nl b hb s f hs hf P N hN (by omega)
 obtain ⟨Q,hQ⟩:∃ Q,Q=P++ZnH ((b.take f).drop s):=⟨_,rfl⟩
 have hQl:Q.length=N+(f-s):=by rw [hQ,List.length_append,ZnH,List.length_map,List.length_drop,List.length_take];omega
 have hR':ZyI b P s f l k=Q++[(l,k)]:=by rw [ZyI,hQ]
 have hRl:(Q++[(l,k)]).length=N+(f-s)+1:=by rw [List.length_append,hQl];rfl
 have hw1:IntKind.u16.wrap (l:Int)=(l:Int):=by
  simp only [IntKind.wrap,IntKind.bits,IntKind.signed]
  simp
  omega
 have hw2:IntKind.u16.wrap (k:Int)=(k:Int):=by
  simp only [IntKind.wrap,IntKind.bits,IntKind.signed]
  simp
  omega
 obtain ⟨M,hM⟩:∃ M,M=N+(f-s):=⟨_,rfl⟩
 have hM2:M≤20000:=by omega
 rw [←hM] at hQl hRl p1
 rw [←hQ] at p1
 have hpl:(pcC Q).length=M*2:=by rw [ZjG,hQl]
 have hpc:pcC Q++[AV.sc (.int .u16 (l:Int)),AV.sc (.int .u16 (k:Int))]=pcC (Q++[(l,k)]):=by rw [Zqt];rfl
 have hfl:List.flatMap (fun x=>(Zaq x).getD []) [AV.agg [AV.sc (Value.int IntKind.u16 (l:Int)),AV.sc (Value.int IntKind.u16 (k:Int))]]=[AV.sc (Value.int IntKind.u16 (l:Int)),AV.sc (Value.int IntKind.u16 (k:Int))]:=rfl
 have hnl:nl0 (M+1)=false:=Zcg (by omega)
 rw [hR']
 simp only [p2I,p2O,hRl,←hN]
 repeat (first | refine zR hR ?_ | exact zU hR)
 refine Zt2 rfl ?_
 refine Zag [(1003,0),(1002,0),(1001,0),(1004,0)] 2000 p1 (by simp) (by simp) ?_ ?_ ?_
 iterate 2 (case _=>(first | exact yU (ja3 hR @Zal @ZaO) | refine yR (ja3 hR @Zal @ZaO) ?_))
 repeat (first | refine zR (ja5 hR @Zal @ZaO @hw1 @hw2) ?_ | exact zU (ja5 hR @Zal @ZaO @hw1 @hw2))
 refine ⟨⟨_,rfl,rfl⟩,⟨fun w hw=>⟨_,List.mem_singleton.1 hw⟩,hpl.symm,by omega,by omega⟩,?_⟩
 repeat (first | refine zR (ja6 hR @hfl @hpc @hnl @ZaO iR) ?_ | exact zU (ja6 hR @hfl @hpc @hnl @ZaO iR))
 try omega
def ZBv (b:List UInt8):Nat→Nat→List (K3 × Nat) × List Int→List (K3 × Nat) × List Int
 | 0,_,x=>x
 | j+1,p,x=>ZBv b j (p+1) (ZDY b x.1 p,ZyH b x.1 x.2 p)
theorem Zru {b:List UInt8}:∀ {j p:Nat} {x:List (K3 × Nat) × List Int},FInv b x.1 x.2 p→p+j≤b.length→FInv b (ZBv b j p x).1 (ZBv b j p x).2 (p+j)
 | 0,_,_,h,_=>h
 | j+1,p,x,h,hp=>by
  rw [ZBv,show p+(j+1)=(p+1)+j by omega]
  exact Zru (h.add (by omega)) (by omega)
def ZBw (b:List UInt8) (m:List (K3 × Nat)) (A:List Int) (p:Nat):Nat × Nat:=Zrs b A p (min 258 (b.length-p)) (Zo1 b.length) (Ze1 b m (p:Int)) 0 0
def ZmI (b:List UInt8):Nat→Nat→List (K3 × Nat) × List Int→List (Nat × Nat)→Nat→List (Nat × Nat) × Nat
 | 0,_,_,P,s=>(P,s)
 | n+1,p,x,P,s=>if b.length≤p then (P,s) else
  if 0<(ZBw b x.1 x.2 p).1 then ZmI b n (p+(ZBw b x.1 x.2 p).1) (ZBv b (ZBw b x.1 x.2 p).1 p x) (ZyI b P s p (ZBw b x.1 x.2 p).1 (ZBw b x.1 x.2 p).2) (p+(ZBw b x.1 x.2 p).1)
  else ZmI b n (p+1) (ZBv b 1 p x) P s
theorem ZBx {b:List UInt8} {m:List (K3 × Nat)} {A:List Int} {p:Nat} (h:FInv b m A p) (hp:p<b.length):Zyp b p (min 258 (b.length-p)) (ZBw b m A p):=by
 refine Zrt h (by omega) (fun hs=>?_) _ _ _ _ (ZnU h) (.inl rfl)
 unfold ZaD at hs
 split at hs
 ·simp at hs
 ·omega
theorem Zo2 {b:List UInt8} {P:List (Nat × Nat)} {s f l k:Nat} (hs:s≤f) (hf:f≤b.length):(ZyI b P s f l k).length=P.length+(f-s)+1:=by
 rw [ZyI,List.length_append,List.length_append,ZnH,List.length_map,List.length_drop,List.length_take,List.length_singleton];omega
def KE:Nat:=8999999999
theorem ZGx:KE=8999999999:=rfl
theorem ZBy {n:Nat} (h:n≤20000):Zo1 n≤20000:=by unfold Zo1;split <;> omega
set_option maxHeartbeats 2000000 in
set_option maxRecDepth 100000 in
theorem ZBz [Tabs Tryz.prog] (nl:Bool) (b:List UInt8) (hb:b.length≤20000) (R:List (Nat × Nat) × Nat) (hR0:R=ZmI b b.length 0 ([],List.replicate b.length 0) [] 0) :
  HCon Tryz.prog Zhd [.sl nl none (b.map u8),.clo Zbh [.op 1000 0 0,.op 1001 0 0,.op 1002 0 0]] (p2I nl b 0 []) (.tup []) (p2O nl b R.2 R.1 (KE+1)) (KE+2):=by
 refine HCon.of' mix Tryz.func50 rfl Tryz.ntmps50 Zml Zmm (by simp) ?_ ?_ ?_
 ·simp only [AV.gl.glL,AV.gl,and_true]
  exact ⟨Zae _ _ Zak,by simp⟩
 ·intro n cells h
  simp only [List.mem_cons,AO.row.injEq,List.not_mem_nil,or_false] at h
  obtain ⟨-,rfl⟩ | ⟨-,rfl⟩ | ⟨-,rfl⟩ | ⟨-,rfl⟩ | ⟨-,rfl⟩:=h
  ·simp [AV.gl.glL,AV.gl]
  ·simp [AV.gl.glL,AV.gl]
  ·simp [AV.gl.glL,AV.gl]
  ·simp only [AV.gl.glL,AV.gl,and_true];exact Zae _ _ Zak
  ·exact Zae _ _ ZnV
 unfold Zhn
 have nf:=ZuZ nl b hb
 repeat (first | refine zR hR ?_ | exact zU hR)
 refine Zag [] 2000 nf (by simp) (by simp) ?_ ?_ ?_
 iterate 2 (case _=>(first | exact yU hR | refine yR hR ?_))
 repeat (first | refine zR (ja3 hR @Zal iR) ?_ | exact zU (ja3 hR @Zal iR))
 obtain ⟨t,ht⟩:∃ t,t=Zo1 b.length:=⟨_,rfl⟩
 have htl:t≤20000:=by rw [ht];exact ZBy hb
 refine SWp.loop (α:=Nat × (List (K3 × Nat) × List Int) × List (Nat × Nat) × Nat × Nat × Nat) (fun x=>mk 37 x.2.2.2.2.2 [(0,.sl nl none (b.map u8)),(1,.clo Zbh [.op 1000 0 0,.op 1001 0 0,.op 1002 0 0]),(4,.op 2011 4 0),(5,int x.1)] (p2O nl b x.2.2.2.1 x.2.2.1 x.2.2.2.2.1++[(2011,4,.row false [.sl nl none (b.map u8),.mp 2005 2,.own 2009 3 none 0 x.2.1.2.length,.sc (.int .i64 (t:Int))]),(2005,2,.row false [.tup (x.2.1.1.map enA)]),(2009,3,.row false (x.2.1.2.map int))]))
  (fun x=>x.1≤b.length∧FInv b x.2.1.1 x.2.1.2 x.1∧x.2.2.1.length≤x.2.2.2.1∧x.2.2.2.1≤x.1∧(∃ n,b.length≤x.1+n∧R=ZmI b n x.1 x.2.1 x.2.2.1 x.2.2.2.1)∧x.2.2.2.2.2≤10+200000*x.1) (fun x=>b.length-x.1) (0,([],List.replicate b.length 0),[],0,0,5) ⟨Nat.zero_le _,FInv.start,Nat.zero_le _,Nat.zero_le _,⟨b.length,by simp,hR0⟩,by simp⟩ (Zau rfl ?_ ?_ ?_) ?_
 iterate 3 (case _=>(first | exact yU (ja3 hR @List.length_replicate.{0} ht.symm) | refine yR (ja3 hR @List.length_replicate.{0} ht.symm) ?_))
 rintro ⟨p,⟨m,A⟩,P,s,g,gc⟩ ⟨hp,hF,hPs,hsp,⟨n0,hn0,hRe⟩,hgc⟩ -
 simp only at hp hF hPs hsp hn0 hRe hgc
 obtain ⟨N,hN⟩:∃ N,N=P.length:=⟨_,rfl⟩
 have hAl:=hF.len
 obtain ⟨e,he⟩:∃ e,e=m.map enA:=⟨_,rfl⟩
 have hre:∀ ρ,ren.renL ρ e=e:=fun ρ=>by rw [he];exact Ze4
 by_cases cp:p<b.length
 ·have dp:decide ((p:Int)<(b.length:Int))=true:=decide_eq_true (by omega)
  obtain ⟨r,hr⟩:∃ r,r=ZBw b m A p:=⟨_,rfl⟩
  have hro:Zyp b p (min 258 (b.length-p)) r:=by rw [hr];exact ZBx hF cp
  have lo:=Zs8 nl b hb t htl m A p cp hF r (by rw [hr,ZBw,ht])
  obtain ⟨n,hn⟩:∃ n,n0=n+1:=⟨n0-1,by omega⟩
  rw [hn,ZmI,if_neg (by omega)] at hRe
  simp only [←hr] at hRe
  simp only [p2O,List.cons_append,List.nil_append,fdI,fdO,fdR,←he,←hN] at lo ⊢
  repeat (first | refine zR (ja2 @dp @List.length_map.{0,0}) ?_ | exact zU (ja2 @dp @List.length_map.{0,0}))
  refine Zag [(2011,4),(2005,2),(2009,3)] 3000 lo (by simp) (by simp) ?_ ?_ ?_
  iterate 2 (case _=>(first | exact yU (ja3 iR @hre @Zal) | refine yR (ja3 iR @hre @Zal) ?_))
  iterate 2 (first | refine zR (ja3 iR @hre @Zal) ?_ | exact zU (ja3 iR @hre @Zal))
  obtain ⟨l,k⟩:=r
  simp only at hRe hro ⊢
  obtain ⟨J,hJ⟩:∃ J,J=max l 1:=⟨_,rfl⟩
  have hmx:(if (l:Int)<1 then (1:Int) else (l:Int))=(J:Int):=by split <;> omega
  have hlk:l=0∨(3≤l∧p+l≤b.length∧l≤258∧1≤k∧k≤p):=by
   rcases hro with h | ⟨h1,h2,h3,h4,_⟩
   ·exact .inl h
   ·simp only at h1 h2 h3 h4;exact .inr (by omega)
  have hJb:p+J≤b.length:=by omega
  obtain ⟨P2,hP2⟩:∃ P2,P2=if 0<l then ZyI b P s p l k else P:=⟨_,rfl⟩
  obtain ⟨s2,hs2⟩:∃ s2,s2=if 0<l then p+l else s:=⟨_,rfl⟩
  have hRe2:R=ZmI b n (p+J) (ZBv b J p (m,A)) P2 s2:=by
   by_cases c:0<l
   ·rw [if_pos c] at hRe hP2 hs2
    rw [hRe,hP2,hs2,show J=l by omega]
   ·rw [if_neg c] at hRe hP2 hs2
    rw [hRe,hP2,hs2,show J=1 by omega]
  have hPs2:P2.length≤s2:=by
   by_cases c:0<l
   ·rw [if_pos c] at hP2 hs2
    rw [hP2,hs2,Zo2 hsp hp];omega
   ·rw [if_neg c] at hP2 hs2
    rw [hP2,hs2];exact hPs
  have hss2:s2≤p+J:=by rw [hs2];split <;> omega
  obtain ⟨g2,hg2⟩:∃ g2,g2=if 0<l then gc+100000+30002 else g:=⟨_,rfl⟩
  refine SWp.toT (F:=mk 37 (gc+130003) [(0,.sl nl none (b.map u8)),(1,.clo Zbh [.op 1000 0 0,.op 1001 0 0,.op 1002 0 0]),(4,.op 2011 4 0),(5,int p),(6,int l)] (p2O nl b s2 P2 g2++[(2011,4,.row false [.sl nl none (b.map u8),.mp 2005 2,.own 2009 3 none 0 A.length,.sc (.int .i64 (t:Int))]),(2005,2,.row false [.tup e]),(2009,3,.row false (A.map int))])) ?_ ?_
  ·by_cases c:0<l
   ·have dl:decide ((0:Int)<(l:Int))=true:=decide_eq_true (by omega)
    rw [if_pos c] at hP2 hs2
    rw [if_pos c] at hg2
    rw [hg2]
    have p2:=ZBu nl b hb s p l k hsp hp P hPs (by omega) (by omega)
    rw [←hP2,←hs2] at p2
    simp only [p2I,p2O,←hN] at p2 ⊢
    repeat (first | refine zR @dl ?_ | exact zU @dl)
    refine Zt2 rfl ?_
    refine Zag [(1000,0),(1001,0),(1002,0),(1003,0),(1004,g)] 3000 p2 (by simp) (by simp) ?_ ?_ ?_
    iterate 2 (case _=>(first | exact yU (ja3 hR @Zal @ZaO) | refine yR (ja3 hR @Zal @ZaO) ?_))
    repeat (first | refine zR (ja3 hR @Zal @ZaO) ?_ | exact zU (ja3 hR @Zal @ZaO))
    refine Zau rfl ?_ ?_ ?_
    ·show gc+100000+30003≤gc+130003
     omega
    iterate 2 (case _=>(first | exact yT | refine yS ?_))
   ·have dl:decide ((0:Int)<(l:Int))=false:=decide_eq_false (by omega)
    rw [if_neg c] at hP2 hs2
    rw [if_neg c] at hg2
    rw [hP2,hs2,hg2]
    simp only [p2O,←hN]
    repeat (first | refine zR @dl ?_ | exact zU @dl)
    refine SWp.skip (Zau rfl ?_ ?_ ?_)
    ·show gc+100000≤gc+130003
     omega
    iterate 2 (case _=>(first | exact yT | refine yS ?_))
  ·repeat (first | refine zR @hmx ?_ | exact zU @hmx)
   refine SWp.loop (α:=Nat × Nat × (List (K3 × Nat) × List Int) × Nat) (fun x=>mk 37 x.2.2.2 [(0,.sl nl none (b.map u8)),(1,.clo Zbh [.op 1000 0 0,.op 1001 0 0,.op 1002 0 0]),(4,.op 2011 4 0),(5,int x.2.1),(28,int J),(29,int x.1)] (p2O nl b s2 P2 g2++[(2011,4,.row false [.sl nl none (b.map u8),.mp 2005 2,.own 2009 3 none 0 x.2.2.1.2.length,.sc (.int .i64 (t:Int))]),(2005,2,.row false [.tup (x.2.2.1.1.map enA)]),(2009,3,.row false (x.2.2.1.2.map int))]))
    (fun x=>x.1≤J∧x.2.1=p+x.1∧FInv b x.2.2.1.1 x.2.2.1.2 x.2.1∧ZBv b J p (m,A)=ZBv b (J-x.1) x.2.1 x.2.2.1∧x.2.2.2≤200000*p+130020+20*x.1) (fun x=>J-x.1) (0,p,(m,A),gc+130003) ⟨Nat.zero_le _,rfl,hF,rfl,by simp only;omega⟩ (Zau rfl ?_ ?_ ?_) ?_
   ·exact Nat.le_refl _
   iterate 2 (case _=>(first | exact yU he.symm | refine yR he.symm ?_))
   rintro ⟨j,q,⟨m2,A2⟩,gd⟩ ⟨hj,hq,hF2,haN,hgd⟩ -
   simp only at hj hq hF2 haN hgd
   by_cases cj:j<J
   ·have dj:decide ((j:Int)<(J:Int))=true:=decide_eq_true (by omega)
    have hql:q<b.length:=by omega
    have hll:-32769≤Ze1 b m2 (q:Int)∧Ze1 b m2 (q:Int)≤20000:=by
     rcases ZnU hF2 with h | ⟨h1,h2,_⟩ <;> omega
    have ad:=ZDZ nl b hb t m2 A2 hF2.len q hql hll
    obtain ⟨i,hi⟩:∃ i,J-j=i+1:=⟨J-j-1,by omega⟩
    rw [hi,ZBv] at haN
    simp only at haN
    have hF3:=hF2.add hql
    obtain ⟨m3,hm3⟩:∃ m3,m3=ZDY b m2 q:=⟨_,rfl⟩
    obtain ⟨A3,hA3⟩:∃ A3,A3=ZyH b m2 A2 q:=⟨_,rfl⟩
    rw [←hm3,←hA3] at hF3 haN ad
    simp only [fdI,fdO,fdR] at ad
    repeat (first | refine zR @dj ?_ | exact zU @dj)
    refine Zag [(2011,4),(2005,2),(2009,3)] 3000 ad (by simp) (by simp) ?_ ?_ ?_
    iterate 2 (case _=>(first | exact yU (ja3 iR @Ze4 @Zal) | refine yR (ja3 iR @Ze4 @Zal) ?_))
    repeat (first | refine zR (ja3 iR @Ze4 @Zal) ?_ | exact zU (ja3 iR @Ze4 @Zal))
    refine At.of (j+1,q+1,(m3,A3),gd+14) ⟨by simp only;omega,by simp only;omega,hF3,by simp only;rw [show J-(j+1)=i by omega];exact haN,by simp only;omega⟩ (by simp only;omega) rfl rfl (Nat.le_refl _) ?_ ?_
    iterate 2 (case _=>(first | exact yT | refine yS ?_))
   ·have dj:decide ((j:Int)<(J:Int))=false:=decide_eq_false (by omega)
    obtain rfl:j=J:=by omega
    rw [Nat.sub_self,ZBv] at haN
    rw [haN] at hRe2
    repeat (first | refine zR @dj ?_ | exact zU @dj)
    refine At.of (q,(m2,A2),P2,s2,g2,gd) ⟨by simp only;omega,hF2,hPs2,by simp only;omega,⟨n,by simp only;omega,by rw [hq];exact hRe2⟩,by simp only;omega⟩ (by simp only;omega) rfl rfl (Nat.le_refl _) ?_ ?_
    iterate 2 (case _=>(first | exact yT | refine yS ?_))
 ·have dp:decide ((p:Int)<(b.length:Int))=false:=decide_eq_false (by omega)
  obtain rfl:p=b.length:=by omega
  have hRs:ZmI b n0 b.length (m,A) P s=(P,s):=by
   cases n0 with
   | zero=>rfl
   | succ n=>rw [ZmI,if_pos (Nat.le_refl _)]
  rw [hRs] at hRe
  subst hRe
  simp only [p2O,List.cons_append,List.nil_append,←hN]
  iterate 4 (first | refine zR (ja2 @dp @List.length_map.{0,0}) ?_ | exact zU (ja2 @dp @List.length_map.{0,0}))
  refine SWp.le (Zau (N:=37) (gc:=KE+1) (l:=[]) (h:=[(1000,0,.row false [.clo Zbg [.op 1003 0 0,.op 1002 0 0,.op 1001 0 0]]),(1001,0,.row false [.own 1004 g (some 2) 0 N]),(1002,0,.row false [.sc (.int .i64 (s:Int))]),(1003,0,.row false [.sl nl none (b.map u8)]),(1004,g,.row (nl0 N) (pcC P))]) rfl ?_ ?_ ?_) ?_
  ·have:=ZGx
   (first | exact yT | refine yS ?_)
   omega
  iterate 2 (case _=>(first | exact yT | refine yS ?_))
  refine SWp.renew 1004 g (o:=.row (nl0 N) (pcC P)) (by (first | exact yT | refine yS ?_)) ?_
  refine SWp.le (Zau (N:=37) (gc:=KE+2) (l:=[]) (h:=[(1000,0,.row false [.clo Zbg [.op 1003 0 0,.op 1002 0 0,.op 1001 0 0]]),(1001,0,.row false [.own 1004 (KE+1) (some 2) 0 N]),(1002,0,.row false [.sc (.int .i64 (s:Int))]),(1003,0,.row false [.sl nl none (b.map u8)]),(1004,KE+1,.row (nl0 N) (pcC P))]) rfl ?_ ?_ ?_) ?_
  iterate 3 (case _=>(first | exact yU (ja6 @Zbm @Zbn @ZaO @Zow iR @Zal) | refine yR (ja6 @Zbm @Zbn @ZaO @Zow iR @Zal) ?_))
  repeat (first | refine zR (ja3 iR hR @ZaO) ?_ | exact zU (ja3 iR hR @ZaO))
end Go.Proofs.YtbcncdpaigljeaaGreatDoor.Aw
