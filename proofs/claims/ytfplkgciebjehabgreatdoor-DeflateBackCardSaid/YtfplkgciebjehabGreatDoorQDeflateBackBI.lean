/- Parts of the proof of DeflateBack. -/
import Derived.Test.YtfplkgciebjehabGreatDoorQDeflateBackBH
import Derived.Test.YtfplkgciebjehabGreatDoorQDeflateBackBF
import Derived.Test.YtfplkgciebjehabGreatDoorQDeflateBackBE
import Derived.Test.YtfplkgciebjehabGreatDoorQDeflateBackAW
import Derived.Test.YtfplkgciebjehabGreatDoorRows
import Derived.MakeChecks
import Derived.Lib.LaidTab
namespace Go.Proofs.YtfplkgciebjehabGreatDoor.Aw
open Go
set_option linter.defProp false
set_option maxRecDepth 100000
set_option linter.unusedSimpArgs false
set_option linter.unusedVariables false
theorem ZqK [Tabs Tryz.prog] (k:Nat) (hk:k≤20):Con Tryz.prog Zdp [int (k:Int)] (int ((2^k:Nat):Int)):=by
 refine Con.of' mix Tryz.func97 rfl Tryz.ntmps97 Zke Zkf zB rfl rfl ?_
 unfold ZfC
 obtain ⟨p,hp⟩:∃ p:Nat→Nat,p=fun j=>2^j:=⟨_,rfl⟩
 have hp0:p 0=1:=by rw [hp]
 have hps:∀ j,p (j+1)=2*p j:=fun j=>by rw [hp];simp only [Nat.pow_succ];omega
 have hpl:∀ j,j≤20→p j≤1048576:=fun j hj=>by rw [hp];exact ZaR (n:=j) (m:=20) hj
 rw [show (2:Nat)^k=p k by rw [hp]]
 clear hp
 repeat (first|refine zS ?_|exact zT)
 refine SWp.loop (α:=Nat) (fun j=>mk 13 0 [(0,int (k:Int)),(3,int (p j:Nat)),(4,int (j:Int))] [])
  (fun j=>j≤k) (fun j=>k-j) 0 (Nat.zero_le _) (Zaj rfl ?_ ?_ ?_) ?_
 ·exact Nat.le_refl _
 iterate 2 (case _=>(first|exact yU @hp0|refine yR @hp0 ?_))
 rintro j hj -
 have h1:=hpl j zO
 have h2:=hps j
 obtain ⟨y,hy⟩:∃ y,y=p j:=⟨_,rfl⟩
 rw [←hy] at h1 h2 ⊢
 repeat (first|refine zS ?_|exact zT)
 refine SWp.cond rfl (fun h=>?_) (fun h=>?_)
 ·simp only [decide_eq_true_eq] at h
  have e2:(2:Int)*(y:Int)=((2*y:Nat):Int):=zO
  rw [h2.symm] at e2
  have h3:=hpl (j+1) zO
  obtain ⟨z,hz⟩:∃ z,z=p (j+1):=⟨_,rfl⟩
  rw [←hz] at e2 h3
  repeat (first|refine zR @e2 ?_|exact zU @e2)
  refine At.of (j+1) zO zO rfl rfl (Nat.le_refl _) ?_ ?_
  iterate 2 (case _=>(first|exact yU hz.symm|refine yR hz.symm ?_))
 ·simp only [decide_eq_false_iff_not] at h
  obtain rfl:j=k:=zO
  repeat (first|refine zR hy.symm ?_|exact zU hy.symm)
def leS (B:List Nat) (x i e:Nat):Nat × Nat × Nat:=if x<8 then (3+x,i,e) else if x=28 then (258,i,e) else (3+(4+x % 4)*2^(x / 4-1)+(nuS B (x / 4-1) i e).1,(nuS B (x / 4-1) i e).2)
def diS (B:List Nat) (x i e:Nat):Nat × Nat × Nat:=if x<4 then (1+x,i,e) else (1+(2+x % 2)*2^(x / 2-1)+(nuS B (x / 2-1) i e).1,(nuS B (x / 2-1) i e).2)
theorem ZBA {B:List Nat} (hB:∀ x∈B,x<2) {n i e:Nat} (hn:n≤24):(nuS B n i e).1<16777216:=by
 unfold nuS
 split
 ·simp only;omega
 ·split
  ·have h1:=ZmV (l:=(B.drop i).take n) fun x hx=>hB x (List.mem_of_mem_drop (List.mem_of_mem_take hx))
   have h2:2^((B.drop i).take n).length≤16777216:=ZaR (n:=((B.drop i).take n).length) (m:=24) (by rw [List.length_take];omega)
   simp only
   omega
  ·simp only;omega
def BI1:=ja3 @stO.eq_1 @stR.eq_1 iR
def BI2:=ja3 @stI.eq_1 @stR.eq_1 iR
set_option maxHeartbeats 1000000 in
theorem Zva [Tabs Tryz.prog] (nb:Bool) (B:List Nat) (hBl:B.length≤400000) (hB:∀ x∈B,x<2) (most i e:Nat) (hi:i≤B.length) (out:List UInt8) (x:Nat) (hx:x≤28) :
  HCon Tryz.prog ZcP [.op 1000 0 0,int ((x+257:Nat):Int)] (stI nb B most i e out) (int ((leS B x i e).1:Int)) (stO 0 nb B most (leS B x i e).2.1 (leS B x i e).2.2 out) 2:=by
 refine HCon.of' mix Tryz.func51 rfl Tryz.ntmps51 Zgr Zgs zB (by simp [AV.gl,AV.gl.glL,int]) Ztt ?_
 unfold ZcV
 have ex:((x:Nat):Int)+257-257=(x:Int):=zO
 by_cases c1:x<8
 ·have d1:decide ((x:Int)<8)=true:=decide_eq_true zO
  rw [show leS B x i e=(3+x,i,e) by rw [leS,if_pos c1]]
  repeat (first|refine zR (ja5 @stI.eq_1 @stR.eq_1 @stO.eq_1 @ex @d1) ?_|exact zU (ja5 @stI.eq_1 @stR.eq_1 @stO.eq_1 @ex @d1))
 have d1:decide ((x:Int)<8)=false:=decide_eq_false zO
 by_cases c2:x=28
 ·subst c2
  rw [show leS B 28 i e=(258,i,e) from rfl]
  repeat (first|refine zR (ja4 @stI.eq_1 @stR.eq_1 @stO.eq_1 @d1) ?_|exact zU (ja4 @stI.eq_1 @stR.eq_1 @stO.eq_1 @d1))
 have d2:decide ((x:Int)=28)=false:=decide_eq_false zO
 rw [show leS B x i e=(3+(4+x % 4)*2^(x / 4-1)+(nuS B (x / 4-1) i e).1,(nuS B (x / 4-1) i e).2) by rw [leS,if_neg c1,if_neg c2]]
 obtain ⟨k,hk⟩:∃ k,k=x / 4-1:=⟨_,rfl⟩
 obtain ⟨m,hm⟩:∃ m,m=x % 4:=⟨_,rfl⟩
 obtain ⟨q,hq⟩:∃ q,q=x / 4:=⟨_,rfl⟩
 rw [←hk,←hm]
 have e1:(q:Int)-1=(k:Int):=zO
 have hk6:k≤6:=zO
 have hm4:m<4:=zO
 have hp:2^k≤64:=ZaR (n:=k) (m:=6) hk6
 have hz2:(4+m)*2^k≤7*64:=Nat.mul_le_mul zO hp
 have hP:=ZqK k zO
 have hN:=ZgJ nb B hBl hB most i e hi out k zO
 have hnl:=ZBA hB (n:=k) (i:=i) (e:=e) zO
 obtain ⟨p,hpd⟩:∃ p,p=2^k:=⟨_,rfl⟩
 rw [←hpd] at hP hp hz2 ⊢
 obtain ⟨z,hz⟩:∃ z,z=(4+m)*p:=⟨_,rfl⟩
 have e2:((4:Int)+(m:Int))*(p:Int)=(z:Int):=by rw [hz,Int.natCast_mul,Int.natCast_add];rfl
 rw [←hz] at hz2 ⊢
 obtain ⟨⟨v,j,f⟩,hv⟩:∃ r,r=nuS B k i e:=⟨_,rfl⟩
 rw [←hv] at hN hnl ⊢
 repeat (first|refine zR (ja6 @d1 @d2 @ex hq.symm hm.symm @e1) ?_|exact zU (ja6 @d1 @d2 @ex hq.symm hm.symm @e1))
 refine Zaz _ (.inl ⟨rfl,hP⟩) ?_
 repeat (first|refine zR @e2 ?_|exact zU @e2)
 refine Zae [(1000,0),(1001,0)] 2000 hN zB zB ?_ ?_ ?_
 iterate 2 (case _=>(first|exact yU BI2|refine yR BI2 ?_))
 repeat (first|refine zR BI1 ?_|exact zU BI1)
set_option maxHeartbeats 1000000 in
theorem ZrK [Tabs Tryz.prog] (nb:Bool) (B:List Nat) (hBl:B.length≤400000) (hB:∀ x∈B,x<2) (most i e:Nat) (hi:i≤B.length) (out:List UInt8) (x:Nat) (hx:x≤29) :
  HCon Tryz.prog Zcw [.op 1000 0 0,int (x:Int)] (stI nb B most i e out) (int ((diS B x i e).1:Int)) (stO 0 nb B most (diS B x i e).2.1 (diS B x i e).2.2 out) 2:=by
 refine HCon.of' mix Tryz.func52 rfl Tryz.ntmps52 Zfl Zfm zB (by simp [AV.gl,AV.gl.glL,int]) Ztt ?_
 unfold Zcx
 by_cases c1:x<4
 ·have d1:decide ((x:Int)<4)=true:=decide_eq_true zO
  rw [show diS B x i e=(1+x,i,e) by rw [diS,if_pos c1]]
  repeat (first|refine zR (ja4 @stI.eq_1 @stR.eq_1 @stO.eq_1 @d1) ?_|exact zU (ja4 @stI.eq_1 @stR.eq_1 @stO.eq_1 @d1))
 have d1:decide ((x:Int)<4)=false:=decide_eq_false zO
 rw [show diS B x i e=(1+(2+x % 2)*2^(x / 2-1)+(nuS B (x / 2-1) i e).1,(nuS B (x / 2-1) i e).2) by rw [diS,if_neg c1]]
 obtain ⟨k,hk⟩:∃ k,k=x / 2-1:=⟨_,rfl⟩
 obtain ⟨m,hm⟩:∃ m,m=x % 2:=⟨_,rfl⟩
 obtain ⟨q,hq⟩:∃ q,q=x / 2:=⟨_,rfl⟩
 rw [←hk,←hm]
 have e1:(q:Int)-1=(k:Int):=zO
 have hk6:k≤13:=zO
 have hm4:m<2:=zO
 have hp:2^k≤8192:=ZaR (n:=k) (m:=13) hk6
 have hz2:(2+m)*2^k≤3*8192:=Nat.mul_le_mul zO hp
 have hP:=ZqK k zO
 have hN:=ZgJ nb B hBl hB most i e hi out k zO
 have hnl:=ZBA hB (n:=k) (i:=i) (e:=e) zO
 obtain ⟨p,hpd⟩:∃ p,p=2^k:=⟨_,rfl⟩
 rw [←hpd] at hP hp hz2 ⊢
 obtain ⟨z,hz⟩:∃ z,z=(2+m)*p:=⟨_,rfl⟩
 have e2:((2:Int)+(m:Int))*(p:Int)=(z:Int):=by rw [hz,Int.natCast_mul,Int.natCast_add];rfl
 rw [←hz] at hz2 ⊢
 obtain ⟨⟨v,j,f⟩,hv⟩:∃ r,r=nuS B k i e:=⟨_,rfl⟩
 rw [←hv] at hN hnl ⊢
 repeat (first|refine zR (ja4 @d1 hq.symm hm.symm @e1) ?_|exact zU (ja4 @d1 hq.symm hm.symm @e1))
 refine Zaz _ (.inl ⟨rfl,hP⟩) ?_
 repeat (first|refine zR @e2 ?_|exact zU @e2)
 refine Zae [(1000,0),(1001,0)] 2000 hN zB zB ?_ ?_ ?_
 iterate 2 (case _=>(first|exact yU BI2|refine yR BI2 ?_))
 repeat (first|refine zR BI1 ?_|exact zU BI1)
theorem Zpt {B:List Nat} {n i:Nat} (hi:i≤B.length):(ZjN n).run B i=if (nuS B n i 0).2.2=0 then .ok (nuS B n i 0).1 (nuS B n i 0).2.1 else .no (nuS B n i 0).2.2:=by
 have hn:nuS B n i 0=if i+n≤B.length then (Zeq ((B.drop i).take n),i+n,0) else (0,i,2):=by rw [nuS,if_neg zB]
 rw [Zl3 hi,hn]
 by_cases c:i+n≤B.length
 ·rw [if_pos c,if_pos c,if_pos rfl]
 ·rw [if_neg c,if_neg c,if_neg zB]
theorem ZGg {B:List Nat} {x i:Nat} (hi:i≤B.length) (hx:x≤28):(ZoS x).run B i=if (leS B x i 0).2.2=0 then .ok (leS B x i 0).1 (leS B x i 0).2.1 else .no (leS B x i 0).2.2:=by
 unfold ZoS leS
 rw [if_neg zO]
 by_cases c2:x=28
 ·subst c2;rfl
 ·rw [if_neg c2]
  by_cases c1:x<8
  ·rw [if_pos c1,if_pos c1];rfl
  ·rw [if_neg c1,if_neg c1,if_neg c2,Zfd,Zal,Zpt hi]
   obtain ⟨⟨v,j,f⟩,hr⟩:∃ r,r=nuS B (x / 4-1) i 0:=⟨_,rfl⟩
   rw [←hr]
   by_cases q:f=0
   ·simp only [if_pos q];rfl
   ·simp only [if_neg q];rfl
theorem ZGh {B:List Nat} {x i:Nat} (hi:i≤B.length) (hx:x≤29):(ZpM x).run B i=if (diS B x i 0).2.2=0 then .ok (diS B x i 0).1 (diS B x i 0).2.1 else .no (diS B x i 0).2.2:=by
 unfold ZpM diS
 rw [if_neg zO]
 by_cases c1:x<4
 ·rw [if_pos c1,if_pos c1];rfl
 ·rw [if_neg c1,if_neg c1,Zfd,Zal,Zpt hi]
  obtain ⟨⟨v,j,f⟩,hr⟩:∃ r,r=nuS B (x / 2-1) i 0:=⟨_,rfl⟩
  rw [←hr]
  by_cases q:f=0
  ·simp only [if_pos q];rfl
  ·simp only [if_neg q];rfl
theorem Zvb {l B:List Nat} {i:Nat}:(Zx0 l 15 0 0).run B i=if (syS l B i 0).2.2=0 then .ok (syS l B i 0).1 (syS l B i 0).2.1 else .no (syS l B i 0).2.2:=by
 rw [ZmY,Zys,syS,if_neg (show ¬ (0:Nat)≠0 by simp)]
 obtain ⟨⟨v,j,f⟩,hr⟩:∃ r,r=nxt l (B.drop i) 15 0 0:=⟨_,rfl⟩
 rw [←hr]
 by_cases q:f=0
 ·simp only [if_pos q];rfl
 ·simp only [if_neg q]
theorem ZBB {B:List Nat} (hB:∀ x∈B,x<2) {n i e:Nat}:(nuS B n i e).1<2^n:=by
 have hp:0<2^n:=Nat.pow_pos zO
 unfold nuS
 split
 ·simp only;omega
 ·split
  ·have h1:=ZmV (l:=(B.drop i).take n) fun x hx=>hB x (List.mem_of_mem_drop (List.mem_of_mem_take hx))
   have h2:2^((B.drop i).take n).length≤2^n:=ZaR (by rw [List.length_take];omega)
   simp only
   omega
  ·simp only;omega
theorem ZBC {B:List Nat} (hB:∀ x∈B,x<2) {x i:Nat} (hi:i≤B.length) (hx:x≤28):3≤(leS B x i 0).1∧(leS B x i 0).1≤258∧(leS B x i 0).2.1≤B.length∧i≤(leS B x i 0).2.1:=by
 have h2:=ZBB hB (n:=x / 4-1) (i:=i) (e:=0)
 have h3:(nuS B (x / 4-1) i 0).2.1≤B.length∧i≤(nuS B (x / 4-1) i 0).2.1:=by
  unfold nuS;split
  ·exact ⟨hi,Nat.le_refl _⟩
  ·split <;> simp only <;> omega
 unfold leS
 split
 ·simp only;omega
 ·split
  ·simp only;omega
  ·simp only
   rename_i h1 h4
   have hk:x / 4-1=1∨x / 4-1=2∨x / 4-1=3∨x / 4-1=4∨x / 4-1=5:=zO
   have hm:x % 4<4:=zO
   generalize x % 4=m at *
   generalize x / 4-1=k at *
   rcases hk with rfl | rfl | rfl | rfl | rfl <;> omega
theorem ZBD {B:List Nat} (hB:∀ x∈B,x<2) {x i:Nat} (hi:i≤B.length) (hx:x≤29):1≤(diS B x i 0).1∧(diS B x i 0).1<16900000∧(diS B x i 0).2.1≤B.length:=by
 have h2:=ZBA hB (n:=x / 2-1) (i:=i) (e:=0) zO
 have hp:2^(x / 2-1)≤8192:=ZaR (n:=x / 2-1) (m:=13) zO
 have hz:(2+x % 2)*2^(x / 2-1)≤3*8192:=Nat.mul_le_mul zO hp
 have h3:(nuS B (x / 2-1) i 0).2.1≤B.length:=by
  unfold nuS;split
  ·exact hi
  ·split <;> simp only <;> omega
 unfold diS
 split
 ·simp only;omega
 ·simp only;omega
theorem Zpu {l B:List Nat} (hl:l.length≤320) {i:Nat} (hi:i≤B.length):(syS l B i 0).1<320∧i≤(syS l B i 0).2.1∧(syS l B i 0).2.1≤B.length∧((syS l B i 0).2.2=0→i<(syS l B i 0).2.1)∧(syS l B i 0).2.2≤10:=by
 have hfc:=Zh0 (l:=l) (B:=B.drop i) 15 0 0 (Nat.zero_le _)
 have hsy:=Zjw (l:=l) (B:=B.drop i) 15 0 0
 rw [List.length_drop] at hfc
 unfold syS
 rw [if_neg zB]
 split
 ·rename_i h
  have:=hsy h
  simp only
  omega
 ·simp only
  omega
theorem ZHW {B:List Nat} {x i:Nat}:i≤(diS B x i 0).2.1:=by
 unfold diS nuS
 split
 ·exact Nat.le_refl _
 ·rw [if_neg zB]
  split <;> simp
def Zcy (K:Nat) (nb:Bool) (B:List Nat) (most:Nat):BR (List UInt8)→List (Nat × Nat × AO)
 | .ok o j=>stO K nb B most j 0 o
 | .no e=>[(1000,0,.row false (jkR e))]
def BI0:=ja4 @stI.eq_1 @stR.eq_1 iR @cdG.eq_1
def BI3:=ja2 @stR.eq_1 iR
def BI7:=ja3 @jkR.eq_1 (ja2 @Zcy.eq_1 @Zcy.eq_2) iR
def BI8:=ja3 @stR.eq_1 @Zbi iR
def BI9:=ja4 @Zba @Zbb @stR.eq_1 iR
def BI10:=ja4 (ja2 @Zcy.eq_1 @Zcy.eq_2) @stO.eq_1 @stR.eq_1 iR
def BI11:=ja4 @stR.eq_1 @cpy.eq_1 @cpy.eq_2 iR
set_option maxHeartbeats 4000000 in
theorem ZqL [Tabs Tryz.prog] (nb:Bool) (B:List Nat) (hBl:B.length≤400000) (hB:∀ x∈B,x<2) (most:Nat) (hm:most≤16777216) (i:Nat) (hi:i≤B.length) (out:List UInt8) (ho:out.length≤most)
  (n1 m1:Bool) (l:List Nat) (hl:l.length≤320) (hl15:∀ x∈l,x≤15) (hKl:Zav l≤32768) (n2 m2:Bool) (d:List Nat) (hd:d.length≤320) (hd15:∀ x∈d,x≤15) (hKd:Zav d≤32768)
  (F:Nat) (hF:B.length-i<F) (r:BR (List UInt8)) (hr:(ZoT l d most F out).run B i=r) :
  HCon Tryz.prog Zb1 [.op 1000 0 0,cdG n1 m1 l,cdG n2 m2 d] (stI nb B most i 0 out) (.tup []) (Zcy (1000*F+3) nb B most r) (1000*F+4):=by
 refine HCon.of' mix Tryz.func25 rfl Tryz.ntmps25 ZgK ZgL zB (by simp only [AV.gl.glL,AV.gl,and_true];exact ⟨by omega,ZbP 1 _ Zmn,ZbP 1 _ Zmn⟩) Ztt ?_
 unfold Zdc
 have hse:=fun e (q:(ZoT l d most F out).run B i = .no e)=>ZfS (Zrl F out) q
 rw [hr] at hse
 repeat (first|refine zR @cdG.eq_1 ?_|exact zU @cdG.eq_1)
 refine SWp.loop (α:=Nat × List UInt8 × Nat × Nat × Nat × Nat) (fun x=>mk 137 x.2.2.2.2.1 [(0,.op 1000 0 0),(4,.op 4 1 0),(5,.op 5 2 0)] [(1000,0,.row false (stR nb B most x.2.2.2.1 x.2.1.length x.2.2.1 x.2.2.2.2.2)),(1001,x.2.2.2.1,.row (nl0 x.2.1.length) (x.2.1.map u8)),(4,1,.row false [.sl n1 none (l.map nA),.sl m1 none ((Za2 l).map nA)]),(5,2,.row false [.sl n2 none (d.map nA),.sl m2 none ((Za2 d).map nA)])])
  (fun x=>x.2.2.2.2.1+1000*x.1≤1000*F+3∧((x.2.2.2.2.2=0∧(ZoT l d most x.1 x.2.1).run B x.2.2.1=r∧x.2.2.1≤B.length∧B.length-x.2.2.1<x.1∧x.2.1.length≤most)∨(x.2.2.2.2.2≠0∧r = .no x.2.2.2.2.2))) (fun x=>x.1+(if x.2.2.2.2.2=0 then 1 else 0)) (F,out,i,0,3,0) ⟨by simp only;omega,.inl ⟨rfl,hr,hi,hF,ho⟩⟩ (Zaj rfl ?_ ?_ ?_) ?_
 ·exact Nat.le_refl _
 iterate 2 (case _=>(first|exact yU (ja2 @stI.eq_1 iR)|refine yR (ja2 @stI.eq_1 iR) ?_))
 rintro ⟨f,o,p,g,c,e⟩ ⟨hc,hx⟩ -
 simp only at hc hx
 rcases hx with ⟨rfl,hx,hp,hf,hom⟩ | ⟨he,rfl⟩
 ·obtain ⟨f,rfl⟩:∃ f',f=f'+1:=⟨f-1,by omega⟩
  clear hr
  rw [ZoT,Zal,Zvb] at hx
  have hS1:=Zlk nb B hBl hB most p 0 hp o n1 m1 l hl hl15 hKl
  obtain ⟨hs320,hpq,hqB,hq0,he10⟩:=Zpu hl (l:=l) hp
  obtain ⟨⟨sy,q,e1⟩,hs1⟩:∃ s,s=syS l B p 0:=⟨_,rfl⟩
  rw [←hs1] at hS1 hx hs320 hpq hqB hq0 he10
  simp only at hS1 hx hs320 hpq hqB hq0 he10
  clear hs1
  by_cases c1:e1=0
  ·subst c1
   have hq0:=hq0 rfl
   rw [if_pos rfl] at hx
   simp only [BR.bnd] at hx
   by_cases c2:sy<256
   ·rw [if_pos c2] at hx
    have d2:decide ((sy:Int)=256)=false:=decide_eq_false zO
    have d3:decide ((sy:Int)<256)=true:=decide_eq_true zO
    obtain ⟨v,rfl⟩:∃ v:UInt8,sy=v.toNat:=⟨UInt8.ofNat sy,by rw [UInt8.toNat_ofNat',Nat.mod_eq_of_lt zO]⟩
    rw [UInt8.ofNat_toNat] at hx
    have hv:=v.toNat_lt
    by_cases c3:most≤o.length
    ·rw [if_pos c3] at hx
     simp only [BT.run] at hx
     subst hx
     have d4:decide ((most:Int)≤(o.length:Int))=true:=decide_eq_true zO
     have hb:=Zbz nb B most q 0 o true 4
     rw [if_pos ⟨rfl,rfl⟩] at hb
     repeat (first|refine zR @stR.eq_1 ?_|exact zU @stR.eq_1)
     refine Zae [(1000,0),(1001,g)] 2000 hS1 zB zB ?_ ?_ ?_
     iterate 2 (case _=>(first|exact yU BI0|refine yR BI0 ?_))
     repeat (first|refine zR (ja6 @stO.eq_1 @stR.eq_1 iR @d2 @d3 @d4) ?_|exact zU (ja6 @stO.eq_1 @stR.eq_1 iR @d2 @d3 @d4))
     refine Zae [(1000,0),(1001,g)] 3000 hb zB zB ?_ ?_ ?_
     iterate 2 (case _=>(first|exact yU BI0|refine yR BI0 ?_))
     repeat (first|refine zR BI1 ?_|exact zU BI1)
     refine At.of (f,o++[v],q,c+4+1,c+4+1+1,4) ⟨by simp only;omega,.inr ⟨by simp,rfl⟩⟩ (by simp <;> omega) rfl rfl ?_ ?_ ?_
     ·simp only;omega
     iterate 2 (case _=>(first|exact yU BI8|refine yR BI8 ?_))
    ·rw [if_neg c3] at hx
     have d4:decide ((most:Int)≤(o.length:Int))=false:=decide_eq_false zO
     have hb:=Zbz nb B most q 0 o false 4
     rw [if_neg zB] at hb
     repeat (first|refine zR @stR.eq_1 ?_|exact zU @stR.eq_1)
     refine Zae [(1000,0),(1001,g)] 2000 hS1 zB zB ?_ ?_ ?_
     iterate 2 (case _=>(first|exact yU BI0|refine yR BI0 ?_))
     repeat (first|refine zR (ja6 @stO.eq_1 @stR.eq_1 iR @d2 @d3 @d4) ?_|exact zU (ja6 @stO.eq_1 @stR.eq_1 iR @d2 @d3 @d4))
     refine Zae [(1000,0),(1001,g)] 3000 hb zB zB ?_ ?_ ?_
     iterate 2 (case _=>(first|exact yU BI0|refine yR BI0 ?_))
     repeat (first|refine zR BI1 ?_|exact zU BI1)
     refine At.of (f,o++[v],q,c+4+1,c+4+1+1,0) ⟨by simp only;omega,.inl ⟨rfl,hx,hqB,by simp only;omega,by simp only [List.length_append,List.length_singleton];omega⟩⟩ (by simp <;> omega) rfl rfl ?_ ?_ ?_
     ·simp only;omega
     iterate 2 (case _=>(first|exact yU BI8|refine yR BI8 ?_))
   ·rw [if_neg c2] at hx
    have d3:decide ((sy:Int)<256)=false:=decide_eq_false zO
    by_cases c3:sy=256
    ·rw [if_pos c3] at hx
     simp only [BT.run] at hx
     subst hx c3
     repeat (first|refine zR @stR.eq_1 ?_|exact zU @stR.eq_1)
     refine Zae [(1000,0),(1001,g)] 2000 hS1 zB zB ?_ ?_ ?_
     iterate 2 (case _=>(first|exact yU BI0|refine yR BI0 ?_))
     iterate 1 (first|refine zR BI1 ?_|exact zU BI1)
     refine SWp.le (Zaj (N:=137) (gc:=1000*F+3) (l:=[(0,.op 1000 0 0),(6,int 256)]) (h:=[(1000,0,.row false (stR nb B most g o.length q 0)),(1001,g,.row (nl0 o.length) (o.map u8))]) rfl ?_ ?_ ?_) ?_
     ·simp only;omega
     iterate 2 (case _=>(first|exact yU BI3|refine yR BI3 ?_))
     refine SWp.renew 1001 g (o:=.row (nl0 o.length) (o.map u8)) yT ?_
     refine SWp.le (Zaj (N:=137) (gc:=1000*F+4) (l:=[(0,.op 1000 0 0),(6,int 256)]) (h:=[(1000,0,.row false (stR nb B most (1000*F+3) o.length q 0)),(1001,1000*F+3,.row (nl0 o.length) (o.map u8))]) rfl ?_ ?_ ?_) ?_
     ·exact Nat.le_refl _
     iterate 2 (case _=>(first|exact yU BI9|refine yR BI9 ?_))
     repeat (first|refine zR BI10 ?_|exact zU BI10)
    ·rw [if_neg c3,Zal,Zx1,Zal] at hx
     have d2:decide ((sy:Int)=256)=false:=decide_eq_false zO
     by_cases c4:29≤sy-257
     ·rw [show ZoS (sy-257) = .err 3 by rw [ZoS,if_pos c4]] at hx
      simp only [BT.run,BR.bnd] at hx
      subst hx
      have d4:decide ((285:Int)<(sy:Int))=true:=decide_eq_true zO
      have hb:=Zbz nb B most q 0 o true 3
      rw [if_pos ⟨rfl,rfl⟩] at hb
      repeat (first|refine zR @stR.eq_1 ?_|exact zU @stR.eq_1)
      refine Zae [(1000,0),(1001,g)] 2000 hS1 zB zB ?_ ?_ ?_
      iterate 2 (case _=>(first|exact yU BI0|refine yR BI0 ?_))
      repeat (first|refine zR (ja6 @stO.eq_1 @stR.eq_1 iR @d2 @d3 @d4) ?_|exact zU (ja6 @stO.eq_1 @stR.eq_1 iR @d2 @d3 @d4))
      refine Zae [(1000,0),(1001,g)] 3000 hb zB zB ?_ ?_ ?_
      iterate 2 (case _=>(first|exact yU BI0|refine yR BI0 ?_))
      (first|exact yU BI1|refine yR BI1 ?_)
      refine SWp.le (Zaj (N:=137) (gc:=1000*F+3) (l:=[(0,.op 1000 0 0)]) (h:=[(1000,0,.row false (stR nb B most g o.length q 3))]) rfl ?_ ?_ ?_) ?_
      ·simp only;omega
      iterate 2 (case _=>(first|exact yU BI3|refine yR BI3 ?_))
      refine SWp.blur 1000 0 (nl:=false) (cells:=(stR nb B most g o.length q 3)) (jkR 3) yT (by simp only [stR,jkR,ZrS];simp) ?_
      refine SWp.le (Zaj (N:=137) (gc:=1000*F+3) (l:=[(0,.op 1000 0 0)]) (h:=[(1000,0,.row false (jkR 3))]) rfl ?_ ?_ ?_) ?_
      ·exact Nat.le_refl _
      iterate 2 (case _=>(first|exact yT|refine yS ?_))
      repeat (first|refine zR BI7 ?_|exact zU BI7)
      all_goals omega
     ·have d4:decide ((285:Int)<(sy:Int))=false:=decide_eq_false zO
      have hb:=Zbz nb B most q 0 o false 3
      rw [if_neg zB] at hb
      obtain ⟨z,hz⟩:∃ z,z=sy-257:=⟨_,rfl⟩
      obtain rfl:sy=z+257:=zO
      have d2:decide ((z:Int)+257=256)=false:=decide_eq_false zO
      have d3:decide ((z:Int)+257<256)=false:=decide_eq_false zO
      have d4:decide ((285:Int)<(z:Int)+257)=false:=decide_eq_false zO
      rw [←hz] at hx c4
      have hz28:z≤28:=zO
      rw [ZGg hqB hz28] at hx
      have hLe:=Zva nb B hBl hB most q 0 hqB o z hz28
      obtain ⟨hn3,hn5,hq2B,hqq2⟩:=ZBC hB hqB hz28
      obtain ⟨⟨n,q2,e2⟩,hs2⟩:∃ s,s=leS B z q 0:=⟨_,rfl⟩
      rw [←hs2] at hLe hx hn3 hn5 hq2B hqq2
      simp only at hLe hx hn3 hn5 hq2B hqq2
      clear hs2
      have hS2:=Zlk nb B hBl hB most q2 e2 hq2B o n2 m2 d hd hd15 hKd
      by_cases c5:e2=0
      ·subst c5
       rw [if_pos rfl] at hx
       simp only [BR.bnd,Zal] at hx
       rw [Zvb] at hx
       obtain ⟨ht320,hqq,hq3B,hq30,he310⟩:=Zpu hd (l:=d) hq2B
       obtain ⟨⟨t,q3,e3⟩,hs3⟩:∃ s,s=syS d B q2 0:=⟨_,rfl⟩
       rw [←hs3] at hS2 hx ht320 hqq hq3B hq30 he310
       simp only at hS2 hx ht320 hqq hq3B hq30 he310
       have ht0:e3≠0→t=0:=fun h=>by
        have:=congrArg (fun s=>s.1) hs3
        have h3:=congrArg (fun s=>s.2.2) hs3
        rw [syS,if_neg zB] at this h3
        split at this
        ·rename_i h4;rw [if_pos h4] at h3;exact absurd h3 h
        ·exact this
       clear hs3
       by_cases c6:e3=0
       ·subst c6
        rw [if_pos rfl] at hx
        simp only [BR.bnd] at hx
        by_cases c7:30≤t
        ·rw [show ZpM t = .err 3 by rw [ZpM,if_pos c7]] at hx
         simp only [BT.bnd,BT.run,BR.bnd] at hx
         subst hx
         have d5:decide ((29:Int)<(t:Int))=true:=decide_eq_true zO
         have hb2:=Zbz nb B most q3 0 o true 3
         rw [if_pos ⟨rfl,rfl⟩] at hb2
         repeat (first|refine zR @stR.eq_1 ?_|exact zU @stR.eq_1)
         refine Zae [(1000,0),(1001,g)] 2000 hS1 zB zB ?_ ?_ ?_
         iterate 2 (case _=>(first|exact yU BI0|refine yR BI0 ?_))
         repeat (first|refine zR (ja6 @stO.eq_1 @stR.eq_1 iR @d2 @d3 @d4) ?_|exact zU (ja6 @stO.eq_1 @stR.eq_1 iR @d2 @d3 @d4))
         refine Zae [(1000,0),(1001,g)] 3000 hb zB zB ?_ ?_ ?_
         iterate 2 (case _=>(first|exact yU BI0|refine yR BI0 ?_))
         repeat (first|refine zR (ja5 @stO.eq_1 @stR.eq_1 iR @d2 @d3) ?_|exact zU (ja5 @stO.eq_1 @stR.eq_1 iR @d2 @d3))
         refine Zae [(1000,0),(1001,g)] 4000 hLe zB zB ?_ ?_ ?_
         iterate 2 (case _=>(first|exact yU BI0|refine yR BI0 ?_))
         repeat (first|refine zR BI1 ?_|exact zU BI1)
         refine Zae [(1000,0),(1001,g)] 5000 hS2 zB zB ?_ ?_ ?_
         iterate 2 (case _=>(first|exact yU BI0|refine yR BI0 ?_))
         repeat (first|refine zR (ja4 @stO.eq_1 @stR.eq_1 iR @d5) ?_|exact zU (ja4 @stO.eq_1 @stR.eq_1 iR @d5))
         refine Zae [(1000,0),(1001,g)] 6000 hb2 zB zB ?_ ?_ ?_
         iterate 2 (case _=>(first|exact yU BI0|refine yR BI0 ?_))
         (first|exact yU BI1|refine yR BI1 ?_)
         refine SWp.le (Zaj (N:=137) (gc:=1000*F+3) (l:=[(0,.op 1000 0 0)]) (h:=[(1000,0,.row false (stR nb B most g o.length q3 3))]) rfl ?_ ?_ ?_) ?_
         ·simp only;omega
         iterate 2 (case _=>(first|exact yU BI3|refine yR BI3 ?_))
         refine SWp.blur 1000 0 (nl:=false) (cells:=(stR nb B most g o.length q3 3)) (jkR 3) yT (by simp only [stR,jkR,ZrS];simp) ?_
         refine SWp.le (Zaj (N:=137) (gc:=1000*F+3) (l:=[(0,.op 1000 0 0)]) (h:=[(1000,0,.row false (jkR 3))]) rfl ?_ ?_ ?_) ?_
         ·exact Nat.le_refl _
         iterate 2 (case _=>(first|exact yT|refine yS ?_))
         repeat (first|refine zR BI7 ?_|exact zU BI7)
         all_goals omega
        ·have d5:decide ((29:Int)<(t:Int))=false:=decide_eq_false zO
         have hb2:=Zbz nb B most q3 0 o false 3
         rw [if_neg zB] at hb2
         try simp only [Zal] at hx
         rw [ZGh hq3B zO] at hx
         have hDi:=ZrK nb B hBl hB most q3 0 hq3B o t zO
         obtain ⟨hk1,hk5,hq4B⟩:=ZBD hB hq3B (x:=t) zO
         have hq34:q3≤(diS B t q3 0).2.1:=ZHW
         obtain ⟨⟨k,q4,e4⟩,hs4⟩:∃ s,s=diS B t q3 0:=⟨_,rfl⟩
         rw [←hs4] at hDi hx hk1 hk5 hq4B hq34
         simp only at hDi hx hk1 hk5 hq4B hq34
         clear hs4
         have hb3:=Zbz nb B most q4 e4 o (decide ((o.length:Int)<(k:Int))) 3
         obtain ⟨e5,he5⟩:∃ e5,e5=if decide ((o.length:Int)<(k:Int))=true∧e4=0 then 3 else e4:=⟨_,rfl⟩
         rw [←he5] at hb3
         have hb4:=Zbz nb B most q4 e5 o (decide ((most:Int)-(o.length:Int)<(n:Int))) 4
         obtain ⟨e6,he6⟩:∃ e6,e6=if decide ((most:Int)-(o.length:Int)<(n:Int))=true∧e5=0 then 4 else e5:=⟨_,rfl⟩
         rw [←he6] at hb4
         repeat (first|refine zR @stR.eq_1 ?_|exact zU @stR.eq_1)
         refine Zae [(1000,0),(1001,g)] 2000 hS1 zB zB ?_ ?_ ?_
         iterate 2 (case _=>(first|exact yU BI0|refine yR BI0 ?_))
         repeat (first|refine zR (ja6 @stO.eq_1 @stR.eq_1 iR @d2 @d3 @d4) ?_|exact zU (ja6 @stO.eq_1 @stR.eq_1 iR @d2 @d3 @d4))
         refine Zae [(1000,0),(1001,g)] 3000 hb zB zB ?_ ?_ ?_
         iterate 2 (case _=>(first|exact yU BI0|refine yR BI0 ?_))
         repeat (first|refine zR (ja5 @stO.eq_1 @stR.eq_1 iR @d2 @d3) ?_|exact zU (ja5 @stO.eq_1 @stR.eq_1 iR @d2 @d3))
         refine Zae [(1000,0),(1001,g)] 4000 hLe zB zB ?_ ?_ ?_
         iterate 2 (case _=>(first|exact yU BI0|refine yR BI0 ?_))
         repeat (first|refine zR BI1 ?_|exact zU BI1)
         refine Zae [(1000,0),(1001,g)] 5000 hS2 zB zB ?_ ?_ ?_
         iterate 2 (case _=>(first|exact yU BI0|refine yR BI0 ?_))
         repeat (first|refine zR (ja4 @stO.eq_1 @stR.eq_1 iR @d5) ?_|exact zU (ja4 @stO.eq_1 @stR.eq_1 iR @d5))
         refine Zae [(1000,0),(1001,g)] 6000 hb2 zB zB ?_ ?_ ?_
         iterate 2 (case _=>(first|exact yU BI0|refine yR BI0 ?_))
         repeat (first|refine zR BI1 ?_|exact zU BI1)
         refine Zae [(1000,0),(1001,g)] 7000 hDi zB zB ?_ ?_ ?_
         iterate 2 (case _=>(first|exact yU BI0|refine yR BI0 ?_))
         repeat (first|refine zR BI1 ?_|exact zU BI1)
         refine Zae [(1000,0),(1001,g)] 8000 hb3 zB zB ?_ ?_ ?_
         iterate 2 (case _=>(first|exact yU BI0|refine yR BI0 ?_))
         repeat (first|refine zR BI1 ?_|exact zU BI1)
         refine Zae [(1000,0),(1001,g)] 9000 hb4 zB zB ?_ ?_ ?_
         iterate 2 (case _=>(first|exact yU BI0|refine yR BI0 ?_))
         repeat (first|refine zR BI1 ?_|exact zU BI1)
         refine SWp.loop (α:=Nat × Nat × Nat) (fun x=>mk 137 x.2.2 [(0,.op 1000 0 0),(4,.op 4 1 0),(5,.op 5 2 0),(7,int (n:Int)),(9,int (k:Int)),(10,int (x.1:Int))] [(1000,0,.row false (stR nb B most x.2.1 (o.length+x.1) q4 e6)),(1001,x.2.1,.row (nl0 (o.length+x.1)) ((cpy o k x.1).map u8)),(4,1,.row false [.sl n1 none (l.map nA),.sl m1 none ((Za2 l).map nA)]),(5,2,.row false [.sl n2 none (d.map nA),.sl m2 none ((Za2 d).map nA)])])
          (fun x=>x.1≤n∧x.2.2≤c+20+x.1∧(x.1=0∨e6=0)) (fun x=>n-x.1) (0,g,c+16) ⟨Nat.zero_le _,by simp only;omega,.inl rfl⟩ (Zaj rfl ?_ ?_ ?_) ?_
         ·simp only;omega
         iterate 2 (case _=>(first|exact yU BI11|refine yR BI11 ?_))
         rintro ⟨x,g2,c2⟩ ⟨hxn,hc2,hx0⟩ -
         simp only at hxn hc2 hx0
         have hn258:e6=0→o.length+n≤most∧k≤o.length:=fun h=>by
          rw [he6] at h
          split at h
          ·omega
          ·rename_i h7
           have h8:=h
           rw [he5] at h
           split at h
           ·omega
           ·rename_i h9
            simp only [decide_eq_true_eq,not_and] at h7 h9
            constructor
            ·have:¬ ((most:Int)-(o.length:Int)<(n:Int)):=fun q=>h7 q h8
             omega
            ·have:¬ ((o.length:Int)<(k:Int)):=fun q=>h9 q h
             omega
         by_cases c8:e6=0
         ·obtain ⟨hmn,hko⟩:=hn258 c8
          have hcl:=ZjO (k:=k) (n:=x) (out:=o)
          have hcs:=Zn5 (k:=k) (n:=x) (out:=o)
          obtain ⟨y,hy⟩:∃ y,y=cpy o k x:=⟨_,rfl⟩
          rw [←hy] at hcl hcs ⊢
          rw [hcl] at hcs
          subst c8
          by_cases c9:x<n
          ·have d9:decide ((x:Int)<(n:Int))=true:=decide_eq_true zO
           obtain ⟨w,hw⟩:∃ w,w=o.length+x-k:=⟨_,rfl⟩
           have ew:(o.length:Int)+(x:Int)-(k:Int)=(w:Int):=zO
           rw [←hw] at hcs
           obtain ⟨b8,hb8⟩:∃ b8,b8=y.getD w 0:=⟨_,rfl⟩
           rw [←hb8] at hcs
           have hn0:nl0 (o.length+(x+1))=false:=Zca zO
           repeat (first|refine zR (ja6 @stR.eq_1 iR @d9 @hcl @ew hb8.symm) ?_|exact zU (ja6 @stR.eq_1 iR @d9 @hcl @ew hb8.symm))
           refine At.of (x+1,c2,c2+1) ⟨by simp only;omega,by simp only;omega,.inr zB⟩ (by simp only;omega) rfl rfl (Nat.le_refl _) ?_ ?_
           iterate 2 (case _=>(first|exact yU (ja5 @stR.eq_1 @hcs @hn0 @Nat.add_assoc iR)|refine yR (ja5 @stR.eq_1 @hcs @hn0 @Nat.add_assoc iR) ?_))
          ·have d9:decide ((x:Int)<(n:Int))=false:=decide_eq_false zO
           obtain rfl:x=n:=zO
           have he50:e5=0:=by
            by_cases q:e5=0
            ·exact q
            ·rw [if_neg (fun h=>q h.2)] at he6;omega
           have he40:e4=0:=by
            by_cases q:e4=0
            ·exact q
            ·rw [if_neg (fun h=>q h.2)] at he5;omega
           rw [if_pos he40] at hx
           simp only [BR.bnd] at hx
           rw [if_neg zO,if_neg zO] at hx
           simp only [BT.run,BR.bnd] at hx
           rw [←hy] at hx
           repeat (first|refine zR (ja3 @stR.eq_1 iR @d9) ?_|exact zU (ja3 @stR.eq_1 iR @d9))
           refine At.of (f,y,q4,g2,c2,0) ⟨by simp only;omega,.inl ⟨rfl,hx,hq4B,by simp only;omega,by simp only;omega⟩⟩ (by simp <;> omega) rfl rfl (Nat.le_refl _) ?_ ?_
           iterate 2 (case _=>(first|exact yU (ja3 @stR.eq_1 @hcl iR)|refine yR (ja3 @stR.eq_1 @hcl iR) ?_))
         ·have d8:decide ((e6:Int)=0)=false:=decide_eq_false zO
          obtain rfl:x=0:=zO
          have d9:decide ((0:Int)<(n:Int))=true:=decide_eq_true zO
          have hrn:r = .no e6:=by
           rw [←hx]
           by_cases q:e4=0
           ·rw [if_pos q]
            simp only [BR.bnd]
            by_cases q2:o.length<k
            ·rw [if_pos q2]
             have h5:e5=3:=by rw [he5,if_pos ⟨by simpa using q2,q⟩]
             have h6:e6=3:=by rw [he6,if_neg (fun h=>by omega),h5]
             rw [h6];rfl
            ·rw [if_neg q2]
             have h5:e5=0:=by rw [he5,if_neg (fun h=>q2 (by simpa using h.1)),q]
             by_cases q3:most<o.length+n
             ·rw [if_pos q3]
              have h6:e6=4:=by rw [he6,if_pos ⟨decide_eq_true zO,h5⟩]
              rw [h6];rfl
             ·exfalso
              have h6:e6=0:=by rw [he6,if_neg (fun h=>q3 (by have:=of_decide_eq_true h.1;omega)),h5]
              exact c8 h6
           ·rw [if_neg q]
            have h5:e5=e4:=by rw [he5,if_neg (fun h=>q h.2)]
            have h6:e6=e4:=by rw [he6,if_neg (fun h=>q zO),h5]
            rw [h6]
          repeat (first|refine zR (ja4 @stR.eq_1 iR @d9 @d8) ?_|exact zU (ja4 @stR.eq_1 iR @d9 @d8))
          refine At.of (f,o,q4,g2,c2,e6) ⟨by simp only;omega,.inr ⟨c8,hrn⟩⟩ ?_ rfl rfl (Nat.le_refl _) ?_ ?_
          ·simp only;rw [if_neg c8];show f+0<f+1+1;omega
          iterate 2 (case _=>(first|exact yU BI11|refine yR BI11 ?_))
       ·rw [if_neg c6] at hx
        simp only [BR.bnd] at hx
        subst hx
        obtain rfl:t=0:=ht0 c6
        have de:decide ((e3:Int)=0)=false:=decide_eq_false zO
        have hb2:=Zbz nb B most q3 e3 o false 3
        rw [if_neg zB] at hb2
        repeat (first|refine zR @stR.eq_1 ?_|exact zU @stR.eq_1)
        refine Zae [(1000,0),(1001,g)] 2000 hS1 zB zB ?_ ?_ ?_
        iterate 2 (case _=>(first|exact yU BI0|refine yR BI0 ?_))
        repeat (first|refine zR (ja6 @stO.eq_1 @stR.eq_1 iR @d2 @d3 @d4) ?_|exact zU (ja6 @stO.eq_1 @stR.eq_1 iR @d2 @d3 @d4))
        refine Zae [(1000,0),(1001,g)] 3000 hb zB zB ?_ ?_ ?_
        iterate 2 (case _=>(first|exact yU BI0|refine yR BI0 ?_))
        repeat (first|refine zR (ja5 @stO.eq_1 @stR.eq_1 iR @d2 @d3) ?_|exact zU (ja5 @stO.eq_1 @stR.eq_1 iR @d2 @d3))
        refine Zae [(1000,0),(1001,g)] 4000 hLe zB zB ?_ ?_ ?_
        iterate 2 (case _=>(first|exact yU BI0|refine yR BI0 ?_))
        repeat (first|refine zR BI1 ?_|exact zU BI1)
        refine Zae [(1000,0),(1001,g)] 5000 hS2 zB zB ?_ ?_ ?_
        iterate 2 (case _=>(first|exact yU BI0|refine yR BI0 ?_))
        repeat (first|refine zR BI1 ?_|exact zU BI1)
        refine Zae [(1000,0),(1001,g)] 6000 hb2 zB zB ?_ ?_ ?_
        iterate 2 (case _=>(first|exact yU BI0|refine yR BI0 ?_))
        (first|exact yU BI1|refine yR BI1 ?_)
        refine SWp.le (Zaj (N:=137) (gc:=1000*F+3) (l:=[(0,.op 1000 0 0)]) (h:=[(1000,0,.row false (stR nb B most g o.length q3 e3))]) rfl ?_ ?_ ?_) ?_
        ·simp only;omega
        iterate 2 (case _=>(first|exact yU BI3|refine yR BI3 ?_))
        refine SWp.blur 1000 0 (nl:=false) (cells:=(stR nb B most g o.length q3 e3)) (jkR e3) yT (by simp only [stR,jkR,ZrS];simp) ?_
        refine SWp.le (Zaj (N:=137) (gc:=1000*F+3) (l:=[(0,.op 1000 0 0)]) (h:=[(1000,0,.row false (jkR e3))]) rfl ?_ ?_ ?_) ?_
        ·exact Nat.le_refl _
        iterate 2 (case _=>(first|exact yT|refine yS ?_))
        repeat (first|refine zR (ja4 @jkR.eq_1 (ja2 @Zcy.eq_1 @Zcy.eq_2) iR @de) ?_|exact zU (ja4 @jkR.eq_1 (ja2 @Zcy.eq_1 @Zcy.eq_2) iR @de))
        all_goals omega
      ·rw [if_neg c5] at hx
       simp only [BR.bnd] at hx
       subst hx
       have de:decide ((e2:Int)=0)=false:=decide_eq_false zO
       rw [show syS d B q2 e2=(0,q2,e2) by rw [syS,if_pos c5]] at hS2
       have hb2:=Zbz nb B most q2 e2 o false 3
       rw [if_neg zB] at hb2
       repeat (first|refine zR @stR.eq_1 ?_|exact zU @stR.eq_1)
       refine Zae [(1000,0),(1001,g)] 2000 hS1 zB zB ?_ ?_ ?_
       iterate 2 (case _=>(first|exact yU BI0|refine yR BI0 ?_))
       repeat (first|refine zR (ja6 @stO.eq_1 @stR.eq_1 iR @d2 @d3 @d4) ?_|exact zU (ja6 @stO.eq_1 @stR.eq_1 iR @d2 @d3 @d4))
       refine Zae [(1000,0),(1001,g)] 3000 hb zB zB ?_ ?_ ?_
       iterate 2 (case _=>(first|exact yU BI0|refine yR BI0 ?_))
       repeat (first|refine zR (ja5 @stO.eq_1 @stR.eq_1 iR @d2 @d3) ?_|exact zU (ja5 @stO.eq_1 @stR.eq_1 iR @d2 @d3))
       refine Zae [(1000,0),(1001,g)] 4000 hLe zB zB ?_ ?_ ?_
       iterate 2 (case _=>(first|exact yU BI0|refine yR BI0 ?_))
       repeat (first|refine zR BI1 ?_|exact zU BI1)
       refine Zae [(1000,0),(1001,g)] 5000 hS2 zB zB ?_ ?_ ?_
       iterate 2 (case _=>(first|exact yU BI0|refine yR BI0 ?_))
       repeat (first|refine zR BI1 ?_|exact zU BI1)
       refine Zae [(1000,0),(1001,g)] 6000 hb2 zB zB ?_ ?_ ?_
       iterate 2 (case _=>(first|exact yU BI0|refine yR BI0 ?_))
       (first|exact yU BI1|refine yR BI1 ?_)
       refine SWp.le (Zaj (N:=137) (gc:=1000*F+3) (l:=[(0,.op 1000 0 0)]) (h:=[(1000,0,.row false (stR nb B most g o.length q2 e2))]) rfl ?_ ?_ ?_) ?_
       ·simp only;omega
       iterate 2 (case _=>(first|exact yU BI3|refine yR BI3 ?_))
       refine SWp.blur 1000 0 (nl:=false) (cells:=(stR nb B most g o.length q2 e2)) (jkR e2) yT (by simp only [stR,jkR,ZrS];simp) ?_
       refine SWp.le (Zaj (N:=137) (gc:=1000*F+3) (l:=[(0,.op 1000 0 0)]) (h:=[(1000,0,.row false (jkR e2))]) rfl ?_ ?_ ?_) ?_
       ·exact Nat.le_refl _
       iterate 2 (case _=>(first|exact yT|refine yS ?_))
       repeat (first|refine zR (ja4 @jkR.eq_1 (ja2 @Zcy.eq_1 @Zcy.eq_2) iR @de) ?_|exact zU (ja4 @jkR.eq_1 (ja2 @Zcy.eq_1 @Zcy.eq_2) iR @de))
       all_goals omega
  ·rw [if_neg c1] at hx
   simp only [BR.bnd] at hx
   subst hx
   have de:decide ((e1:Int)=0)=false:=decide_eq_false zO
   repeat (first|refine zR @stR.eq_1 ?_|exact zU @stR.eq_1)
   refine Zae [(1000,0),(1001,g)] 2000 hS1 zB zB ?_ ?_ ?_
   iterate 2 (case _=>(first|exact yU BI0|refine yR BI0 ?_))
   iterate 1 (first|refine zR BI1 ?_|exact zU BI1)
   refine SWp.le (Zaj (N:=137) (gc:=1000*F+3) (l:=[(0,.op 1000 0 0),(6,int (sy:Int))]) (h:=[(1000,0,.row false (stR nb B most g o.length q e1))]) rfl ?_ ?_ ?_) ?_
   ·simp only;omega
   iterate 2 (case _=>(first|exact yU BI3|refine yR BI3 ?_))
   refine SWp.blur 1000 0 (nl:=false) (cells:=(stR nb B most g o.length q e1)) (jkR e1) yT (by simp only [stR,jkR,ZrS];simp) ?_
   refine SWp.le (Zaj (N:=137) (gc:=1000*F+3) (l:=[(0,.op 1000 0 0),(6,int (sy:Int))]) (h:=[(1000,0,.row false (jkR e1))]) rfl ?_ ?_ ?_) ?_
   ·exact Nat.le_refl _
   iterate 2 (case _=>(first|exact yT|refine yS ?_))
   repeat (first|refine zR (ja4 @jkR.eq_1 (ja2 @Zcy.eq_1 @Zcy.eq_2) iR @de) ?_|exact zU (ja4 @jkR.eq_1 (ja2 @Zcy.eq_1 @Zcy.eq_2) iR @de))
   all_goals omega
 ·have de:decide ((e:Int)=0)=false:=decide_eq_false zO
  refine SWp.le (Zaj (N:=137) (gc:=1000*F+3) (l:=[(0,.op 1000 0 0)]) (h:=[(1000,0,.row false (stR nb B most g o.length p e))]) rfl ?_ ?_ ?_) ?_
  ·show c≤1000*F+3;omega
  iterate 2 (case _=>(first|exact yU BI3|refine yR BI3 ?_))
  refine SWp.blur 1000 0 (nl:=false) (cells:=(stR nb B most g o.length p e)) (jkR e) yT (by simp only [stR,jkR,ZrS];simp) ?_
  refine SWp.le (Zaj (N:=137) (gc:=1000*F+3) (l:=[(0,.op 1000 0 0)]) (h:=[(1000,0,.row false (jkR e))]) rfl ?_ ?_ ?_) ?_
  ·exact Nat.le_refl _
  iterate 2 (case _=>(first|exact yT|refine yS ?_))
  repeat (first|refine zR (ja4 @jkR.eq_1 (ja2 @Zcy.eq_1 @Zcy.eq_2) iR @de) ?_|exact zU (ja4 @jkR.eq_1 (ja2 @Zcy.eq_1 @Zcy.eq_2) iR @de))
  all_goals omega
theorem ZHX {b:List UInt8} {j:Nat} (hj:j<b.length):ZaY b (8*j) 8=(b.getD j 0).toNat:=by
 have e:b.drop j=b.getD j 0::b.drop (j+1):=by
  rw [List.drop_eq_getElem_cons hj];simp [List.getD,List.getElem?_eq_getElem hj]
 have h1:(Zah b).drop (8*j)=ZdA (b.getD j 0)++Zah (b.drop (j+1)):=by
  conv=>lhs;rw [←List.take_append_drop j b,ZbD]
  rw [List.drop_append,Zac,List.length_take,Nat.min_eq_left zO,Nat.sub_self,List.drop_zero,List.drop_of_length_le (by rw [Zac,List.length_take];omega),List.nil_append,e]
  simp [Zah]
 rw [←Zn4 zO,h1,List.take_append_of_le_length (by rw [ZaW];exact Nat.le_refl _),List.take_of_length_le (by rw [ZaW];exact Nat.le_refl _)]
 exact Zrk.numB_bitsB (b:=b) 0
theorem Ztu {b:List UInt8} {n i:Nat} (h:i+n≤8*b.length):nuS (Zah b) n i 0=(ZaY b i n,i+n,0):=by
 rw [nuS,if_neg zB,Zac,if_pos h,Zn4 h]
theorem Ztv {b:List UInt8} {n i:Nat} (h:¬ i+n≤8*b.length):nuS (Zah b) n i 0=(0,i,2):=by
 rw [nuS,if_neg zB,Zac,if_neg h]
theorem Zyq {B:List Nat} {n i e:Nat} (h:e≠0):nuS B n i e=(0,i,e):=by rw [nuS,if_pos h]
set_option maxHeartbeats 2000000 in
theorem Zvc [Tabs Tryz.prog] (nb:Bool) (b:List UInt8) (hb:b.length≤40000) (most:Nat) (hm:most≤16777216) (i:Nat) (hi:i≤8*b.length) (out:List UInt8) (ho:out.length≤most) (r:BR (List UInt8)) (hr:(ZDa most out).run (Zah b) i=r) :
  HCon Tryz.prog ZcQ [.op 1000 0 0] (stI nb (Zah b) most i 0 out) (.tup []) (Zcy 200000 nb (Zah b) most r) 200001:=by
 refine HCon.of' mix Tryz.func24 rfl Tryz.ntmps24 Zgm Zgn zB (by simp [AV.gl,AV.gl.glL]) Ztt ?_
 unfold ZcT
 rw [ZvD hi] at hr
 obtain ⟨q,hq⟩:∃ q,q=(i+7) / 8:=⟨_,rfl⟩
 rw [←hq] at hr
 have hBl:(Zah b).length=8*b.length:=Zac
 have hNum:=fun i e hi out n hn=>ZgJ nb (Zah b) (by rw [hBl];omega) ZdI most i e hi out n hn
 have ok:=fun {n i:Nat} (h:i+n≤8*b.length)=>Ztu (b:=b) h
 have no:=fun {n i:Nat} (h:¬ i+n≤8*b.length)=>Ztv (b:=b) h
 have ke:=fun {n i e:Nat} (h:e≠0)=>Zyq (B:=Zah b) (n:=n) (i:=i) h
 obtain ⟨B,hB⟩:∃ B,B=Zah b:=⟨_,rfl⟩
 rw [←hB] at hBl
 simp only [←hB] at hNum ok no ke ⊢
 repeat (first|refine zS ?_|exact zT)
 refine SWp.loop (α:=Nat) (fun j=>mk 82 1 [(0,.op 1000 0 0)] [(1000,0,.row false (stR nb B most 0 out.length j 0)),(1001,0,.row (nl0 out.length) (out.map u8))])
  (fun j=>i≤j∧j≤q*8) (fun j=>q*8-j) i ⟨Nat.le_refl _,by omega⟩ (Zaj rfl ?_ ?_ ?_) ?_
 ·exact Nat.le_refl _
 iterate 2 (case _=>(first|exact yU @stI.eq_1|refine yR @stI.eq_1 ?_))
 rintro j ⟨hj,hj2⟩ -
 by_cases c0:j % 8=0
 ·have d0:decide (((j % 8:Nat):Int)=0)=true:=decide_eq_true zO
  obtain rfl:j=q*8:=zO
  repeat (first|refine zR (ja3 @stR.eq_1 iR @d0) ?_|exact zU (ja3 @stR.eq_1 iR @d0))
  by_cases c1:8*b.length<q*8+16
  ·rw [if_pos c1] at hr
   subst hr
   have de:decide ((2:Int)=0)=false:=by decide
   have h1:=hNum (q*8) 0 zO out 16 zO
   rw [no zO] at h1
   have h2:=hNum (q*8) 2 zO out 16 zO
   rw [ke zO] at h2
   have h3:=Zbz nb B most (q*8) 2 out true 3
   rw [if_neg zB] at h3
   refine Zae [(1000,0),(1001,0)] 2000 h1 zB zB ?_ ?_ ?_
   iterate 2 (case _=>(first|exact yU BI2|refine yR BI2 ?_))
   repeat (first|refine zR BI1 ?_|exact zU BI1)
   refine Zae [(1000,0),(1001,0)] 3000 h2 zB zB ?_ ?_ ?_
   iterate 2 (case _=>(first|exact yU BI2|refine yR BI2 ?_))
   repeat (first|refine zR BI1 ?_|exact zU BI1)
   refine Zae [(1000,0),(1001,0)] 4000 h3 zB zB ?_ ?_ ?_
   iterate 2 (case _=>(first|exact yU BI2|refine yR BI2 ?_))
   (first|exact yU BI1|refine yR BI1 ?_)
   refine SWp.le (Zaj (N:=82) (gc:=100) (l:=[(0,.op 1000 0 0)]) (h:=[(1000,0,.row false (stR nb B most 0 out.length (q*8) 2))]) rfl ?_ ?_ ?_) ?_
   ·simp only;omega
   iterate 2 (case _=>(first|exact yU BI3|refine yR BI3 ?_))
   refine SWp.blur 1000 0 (nl:=false) (cells:=(stR nb B most 0 out.length (q*8) 2)) (jkR 2) yT (by simp only [stR,jkR,ZrS];simp) ?_
   refine SWp.le (Zaj (N:=82) (gc:=100) (l:=[(0,.op 1000 0 0)]) (h:=[(1000,0,.row false (jkR 2))]) rfl ?_ ?_ ?_) ?_
   ·exact Nat.le_refl _
   iterate 2 (case _=>(first|exact yT|refine yS ?_))
   repeat (first|refine zR (ja4 @jkR.eq_1 (ja2 @Zcy.eq_1 @Zcy.eq_2) iR @de) ?_|exact zU (ja4 @jkR.eq_1 (ja2 @Zcy.eq_1 @Zcy.eq_2) iR @de))
  ·rw [if_neg c1] at hr
   have h1:=hNum (q*8) 0 zO out 16 zO
   rw [ok zO] at h1
   have hx1:=Ze1 (b:=b) (i:=q*8) (n:=16)
   obtain ⟨x,hx⟩:∃ x,x=ZaY b (q*8) 16:=⟨_,rfl⟩
   rw [←hx] at h1 hr hx1
   by_cases c2:8*b.length<q*8+32
   ·rw [if_pos c2] at hr
    subst hr
    have de:decide ((2:Int)=0)=false:=by decide
    have h2:=hNum (q*8+16) 0 zO out 16 zO
    rw [no zO] at h2
    have h3:=Zbz nb B most (q*8+16) 2 out (!decide ((0:Int)=65535-(x:Int))) 3
    rw [if_neg zB] at h3
    refine Zae [(1000,0),(1001,0)] 2000 h1 zB zB ?_ ?_ ?_
    iterate 2 (case _=>(first|exact yU BI2|refine yR BI2 ?_))
    repeat (first|refine zR BI1 ?_|exact zU BI1)
    refine Zae [(1000,0),(1001,0)] 3000 h2 zB zB ?_ ?_ ?_
    iterate 2 (case _=>(first|exact yU BI2|refine yR BI2 ?_))
    repeat (first|refine zR BI1 ?_|exact zU BI1)
    refine Zae [(1000,0),(1001,0)] 4000 h3 zB zB ?_ ?_ ?_
    iterate 2 (case _=>(first|exact yU BI2|refine yR BI2 ?_))
    (first|exact yU BI1|refine yR BI1 ?_)
    refine SWp.le (Zaj (N:=82) (gc:=100) (l:=[(0,.op 1000 0 0)]) (h:=[(1000,0,.row false (stR nb B most 0 out.length (q*8+16) 2))]) rfl ?_ ?_ ?_) ?_
    ·simp only;omega
    iterate 2 (case _=>(first|exact yU BI3|refine yR BI3 ?_))
    refine SWp.blur 1000 0 (nl:=false) (cells:=(stR nb B most 0 out.length (q*8+16) 2)) (jkR 2) yT (by simp only [stR,jkR,ZrS];simp) ?_
    refine SWp.le (Zaj (N:=82) (gc:=100) (l:=[(0,.op 1000 0 0)]) (h:=[(1000,0,.row false (jkR 2))]) rfl ?_ ?_ ?_) ?_
    ·exact Nat.le_refl _
    iterate 2 (case _=>(first|exact yT|refine yS ?_))
    repeat (first|refine zR (ja4 @jkR.eq_1 (ja2 @Zcy.eq_1 @Zcy.eq_2) iR @de) ?_|exact zU (ja4 @jkR.eq_1 (ja2 @Zcy.eq_1 @Zcy.eq_2) iR @de))
   ·rw [if_neg c2] at hr
    have h2:=hNum (q*8+16) 0 zO out 16 zO
    rw [ok zO] at h2
    have hy1:=Ze1 (b:=b) (i:=q*8+16) (n:=16)
    obtain ⟨y,hy⟩:∃ y,y=ZaY b (q*8+16) 16:=⟨_,rfl⟩
    rw [←hy] at h2 hr hy1
    by_cases c3:x+y≠65535
    ·rw [if_pos c3] at hr
     subst hr
     have de:decide ((3:Int)=0)=false:=by decide
     have d3:decide ((y:Int)=65535-(x:Int))=false:=decide_eq_false zO
     have h3:=Zbz nb B most (q*8+16+16) 0 out true 3
     rw [if_pos ⟨rfl,rfl⟩] at h3
     refine Zae [(1000,0),(1001,0)] 2000 h1 zB zB ?_ ?_ ?_
     iterate 2 (case _=>(first|exact yU BI2|refine yR BI2 ?_))
     repeat (first|refine zR BI1 ?_|exact zU BI1)
     refine Zae [(1000,0),(1001,0)] 3000 h2 zB zB ?_ ?_ ?_
     iterate 2 (case _=>(first|exact yU BI2|refine yR BI2 ?_))
     repeat (first|refine zR (ja4 @stO.eq_1 @stR.eq_1 iR @d3) ?_|exact zU (ja4 @stO.eq_1 @stR.eq_1 iR @d3))
     refine Zae [(1000,0),(1001,0)] 4000 h3 zB zB ?_ ?_ ?_
     iterate 2 (case _=>(first|exact yU BI2|refine yR BI2 ?_))
     (first|exact yU BI1|refine yR BI1 ?_)
     refine SWp.le (Zaj (N:=82) (gc:=100) (l:=[(0,.op 1000 0 0)]) (h:=[(1000,0,.row false (stR nb B most 0 out.length (q*8+16+16) 3))]) rfl ?_ ?_ ?_) ?_
     ·simp only;omega
     iterate 2 (case _=>(first|exact yU BI3|refine yR BI3 ?_))
     refine SWp.blur 1000 0 (nl:=false) (cells:=(stR nb B most 0 out.length (q*8+16+16) 3)) (jkR 3) yT (by simp only [stR,jkR,ZrS];simp) ?_
     refine SWp.le (Zaj (N:=82) (gc:=100) (l:=[(0,.op 1000 0 0)]) (h:=[(1000,0,.row false (jkR 3))]) rfl ?_ ?_ ?_) ?_
     ·exact Nat.le_refl _
     iterate 2 (case _=>(first|exact yT|refine yS ?_))
     repeat (first|refine zR (ja4 @jkR.eq_1 (ja2 @Zcy.eq_1 @Zcy.eq_2) iR @de) ?_|exact zU (ja4 @jkR.eq_1 (ja2 @Zcy.eq_1 @Zcy.eq_2) iR @de))
    ·rw [if_neg c3] at hr
     have d3:decide ((y:Int)=65535-(x:Int))=true:=decide_eq_true zO
     have h3:=Zbz nb B most (q*8+16+16) 0 out false 3
     rw [if_neg zB] at h3
     by_cases c4:b.length<q+4+x
     ·rw [if_pos c4] at hr
      subst hr
      have de:decide ((2:Int)=0)=false:=by decide
      have d4:decide ((B.length:Int)-(((q*8:Nat):Int)+16+16)<8*(x:Int))=true:=decide_eq_true zO
      refine Zae [(1000,0),(1001,0)] 2000 h1 zB zB ?_ ?_ ?_
      iterate 2 (case _=>(first|exact yU BI2|refine yR BI2 ?_))
      repeat (first|refine zR BI1 ?_|exact zU BI1)
      refine Zae [(1000,0),(1001,0)] 3000 h2 zB zB ?_ ?_ ?_
      iterate 2 (case _=>(first|exact yU BI2|refine yR BI2 ?_))
      repeat (first|refine zR (ja4 @stO.eq_1 @stR.eq_1 iR @d3) ?_|exact zU (ja4 @stO.eq_1 @stR.eq_1 iR @d3))
      refine Zae [(1000,0),(1001,0)] 4000 h3 zB zB ?_ ?_ ?_
      iterate 2 (case _=>(first|exact yU BI2|refine yR BI2 ?_))
      (first|exact yU BI1|refine yR BI1 ?_)
      iterate 11 (first|refine zR (ja3 @stR.eq_1 iR @d4) ?_|exact zU (ja3 @stR.eq_1 iR @d4))
      refine SWp.le (Zaj (N:=82) (gc:=100) (l:=[(0,.op 1000 0 0)]) (h:=[(1000,0,.row false (stR nb B most 0 out.length (q*8+16+16) 2))]) rfl ?_ ?_ ?_) ?_
      ·simp only;omega
      iterate 2 (case _=>(first|exact yU BI3|refine yR BI3 ?_))
      refine SWp.blur 1000 0 (nl:=false) (cells:=(stR nb B most 0 out.length (q*8+16+16) 2)) (jkR 2) yT (by simp only [stR,jkR,ZrS];simp) ?_
      refine SWp.le (Zaj (N:=82) (gc:=100) (l:=[(0,.op 1000 0 0)]) (h:=[(1000,0,.row false (jkR 2))]) rfl ?_ ?_ ?_) ?_
      ·exact Nat.le_refl _
      iterate 2 (case _=>(first|exact yT|refine yS ?_))
      repeat (first|refine zR (ja4 @jkR.eq_1 (ja2 @Zcy.eq_1 @Zcy.eq_2) iR @de) ?_|exact zU (ja4 @jkR.eq_1 (ja2 @Zcy.eq_1 @Zcy.eq_2) iR @de))
     ·rw [if_neg c4] at hr
      have d4:decide ((B.length:Int)-(((q*8:Nat):Int)+16+16)<8*(x:Int))=false:=decide_eq_false zO
      by_cases c5:most<out.length+x
      ·rw [if_pos c5] at hr
       subst hr
       have de:decide ((4:Int)=0)=false:=by decide
       have d5:decide ((most:Int)-(out.length:Int)<(x:Int))=true:=decide_eq_true zO
       refine Zae [(1000,0),(1001,0)] 2000 h1 zB zB ?_ ?_ ?_
       iterate 2 (case _=>(first|exact yU BI2|refine yR BI2 ?_))
       repeat (first|refine zR BI1 ?_|exact zU BI1)
       refine Zae [(1000,0),(1001,0)] 3000 h2 zB zB ?_ ?_ ?_
       iterate 2 (case _=>(first|exact yU BI2|refine yR BI2 ?_))
       repeat (first|refine zR (ja4 @stO.eq_1 @stR.eq_1 iR @d3) ?_|exact zU (ja4 @stO.eq_1 @stR.eq_1 iR @d3))
       refine Zae [(1000,0),(1001,0)] 4000 h3 zB zB ?_ ?_ ?_
       iterate 2 (case _=>(first|exact yU BI2|refine yR BI2 ?_))
       (first|exact yU BI1|refine yR BI1 ?_)
       iterate 16 (first|refine zR (ja4 @stR.eq_1 iR @d4 @d5) ?_|exact zU (ja4 @stR.eq_1 iR @d4 @d5))
       refine SWp.le (Zaj (N:=82) (gc:=100) (l:=[(0,.op 1000 0 0)]) (h:=[(1000,0,.row false (stR nb B most 0 out.length (q*8+16+16) 4))]) rfl ?_ ?_ ?_) ?_
       ·simp only;omega
       iterate 2 (case _=>(first|exact yU BI3|refine yR BI3 ?_))
       refine SWp.blur 1000 0 (nl:=false) (cells:=(stR nb B most 0 out.length (q*8+16+16) 4)) (jkR 4) yT (by simp only [stR,jkR,ZrS];simp) ?_
       refine SWp.le (Zaj (N:=82) (gc:=100) (l:=[(0,.op 1000 0 0)]) (h:=[(1000,0,.row false (jkR 4))]) rfl ?_ ?_ ?_) ?_
       ·exact Nat.le_refl _
       iterate 2 (case _=>(first|exact yT|refine yS ?_))
       repeat (first|refine zR (ja4 @jkR.eq_1 (ja2 @Zcy.eq_1 @Zcy.eq_2) iR @de) ?_|exact zU (ja4 @jkR.eq_1 (ja2 @Zcy.eq_1 @Zcy.eq_2) iR @de))
      ·rw [if_neg c5] at hr
       subst hr
       have d5:decide ((most:Int)-(out.length:Int)<(x:Int))=false:=decide_eq_false zO
       obtain ⟨w,hw⟩:∃ w,w=(b.drop (q+4)).take x:=⟨_,rfl⟩
       have hwl:w.length=x:=by rw [hw,List.length_take,List.length_drop];omega
       have hwg:∀ k,k<x→w.getD k 0=b.getD (q+4+k) 0:=fun k hk=>by
        rw [hw];simp only [List.getD];rw [List.getElem?_take,if_pos hk,List.getElem?_drop]
       rw [←hw]
       refine Zae [(1000,0),(1001,0)] 2000 h1 zB zB ?_ ?_ ?_
       iterate 2 (case _=>(first|exact yU BI2|refine yR BI2 ?_))
       repeat (first|refine zR BI1 ?_|exact zU BI1)
       refine Zae [(1000,0),(1001,0)] 3000 h2 zB zB ?_ ?_ ?_
       iterate 2 (case _=>(first|exact yU BI2|refine yR BI2 ?_))
       repeat (first|refine zR (ja4 @stO.eq_1 @stR.eq_1 iR @d3) ?_|exact zU (ja4 @stO.eq_1 @stR.eq_1 iR @d3))
       refine Zae [(1000,0),(1001,0)] 4000 h3 zB zB ?_ ?_ ?_
       iterate 2 (case _=>(first|exact yU BI2|refine yR BI2 ?_))
       repeat (first|refine zR (ja5 @stO.eq_1 @stR.eq_1 iR @d4 @d5) ?_|exact zU (ja5 @stO.eq_1 @stR.eq_1 iR @d4 @d5))
       refine SWp.loop (α:=Nat × Nat × Nat) (fun z=>mk 82 z.2.2 [(0,.op 1000 0 0),(2,int (x:Int)),(4,int (z.1:Int))] [(1000,0,.row false (stR nb B most z.2.1 (out.length+z.1) (8*(q+4+z.1)) 0)),(1001,z.2.1,.row (nl0 (out.length+z.1)) ((out++w.take z.1).map u8))])
        (fun z=>z.1≤x∧z.2.2≤100+2*z.1) (fun z=>x-z.1) (0,0,4) ⟨Nat.zero_le _,by simp only;omega⟩ (Zaj rfl ?_ ?_ ?_) ?_
       ·exact Nat.le_refl _
       ·(first|exact yT|refine yS ?_)
       ·have e0:((q*8:Nat):Int)+16+16=((8*(q+4):Nat):Int):=zO
        (first|exact yU (ja3 @stR.eq_1 iR @e0)|refine yR (ja3 @stR.eq_1 iR @e0) ?_)
       rintro ⟨k,g,c⟩ ⟨hk,hc⟩ -
       simp only at hk hc
       have htl:(w.take k).length=k:=by rw [List.length_take,hwl];omega
       repeat (first|refine zS ?_|exact zT)
       refine SWp.cond rfl (fun h=>?_) (fun h=>?_)
       ·simp only [decide_eq_true_eq] at h
        have hkx:k<x:=zO
        have hn8:=hNum (8*(q+4+k)) 0 zO (out++w.take k) 8 zO
        rw [ok zO,ZHX zO,←hwg k hkx] at hn8
        have hsn:=ZgS (l:=w) (k:=k) (d:=0) zO
        obtain ⟨v,hv⟩:∃ v,v=w.getD k 0:=⟨_,rfl⟩
        rw [←hv] at hn8 hsn
        have hv8:=v.toNat_lt
        have hn0:nl0 (out.length+(k+1))=false:=Zca zO
        have e8:8*(q+4+k)+8=8*(q+4+(k+1)):=zO
        have hol:(out++w.take k).length=out.length+k:=by rw [List.length_append,htl]
        repeat (first|refine zR BI3 ?_|exact zU BI3)
        refine Zae [(1000,0),(1001,g)] 5000 hn8 zB zB ?_ ?_ ?_
        iterate 2 (case _=>(first|exact yU (ja4 @stI.eq_1 @stR.eq_1 iR @htl)|refine yR (ja4 @stI.eq_1 @stR.eq_1 iR @htl) ?_))
        repeat (first|refine zR (ja5 @stO.eq_1 @stR.eq_1 iR @e8 @htl) ?_|exact zU (ja5 @stO.eq_1 @stR.eq_1 iR @e8 @htl))
        refine At.of (k+1,c+1,c+2) ⟨by simp only;omega,by simp only;omega⟩ (by simp only;omega) rfl rfl ?_ ?_ ?_
        ·simp only;omega
        iterate 2 (case _=>(first|exact yU (ja5 @stR.eq_1 @hsn @hn0 iR @Nat.add_assoc)|refine yR (ja5 @stR.eq_1 @hsn @hn0 iR @Nat.add_assoc) ?_))
       ·simp only [decide_eq_false_iff_not] at h
        obtain rfl:k=x:=zO
        have htw:w.take k=w:=List.take_of_length_le zO
        rw [htw]
        refine SWp.le (Zaj (N:=82) (gc:=200000) (l:=[(0,.op 1000 0 0)]) (h:=[(1000,0,.row false (stR nb B most g (out.length+k) (8*(q+4+k)) 0)),(1001,g,.row (nl0 (out.length+k)) ((out++w).map u8))]) rfl ?_ ?_ ?_) ?_
        ·show c≤200000;omega
        iterate 2 (case _=>(first|exact yU BI3|refine yR BI3 ?_))
        refine SWp.renew 1001 g (o:=.row (nl0 (out.length+k)) ((out++w).map u8)) yT ?_
        refine SWp.le (Zaj (N:=82) (gc:=200001) (l:=[(0,.op 1000 0 0)]) (h:=[(1000,0,.row false (stR nb B most 200000 (out.length+k) (8*(q+4+k)) 0)),(1001,200000,.row (nl0 (out.length+k)) ((out++w).map u8))]) rfl ?_ ?_ ?_) ?_
        ·exact Nat.le_refl _
        iterate 2 (case _=>(first|exact yU BI9|refine yR BI9 ?_))
        repeat (first|refine zR (ja5 (ja2 @Zcy.eq_1 @Zcy.eq_2) @stO.eq_1 @stR.eq_1 iR @hwl) ?_|exact zU (ja5 (ja2 @Zcy.eq_1 @Zcy.eq_2) @stO.eq_1 @stR.eq_1 iR @hwl))
        all_goals trace_state
 ·have d0:decide (((j % 8:Nat):Int)=0)=false:=decide_eq_false zO
  repeat (first|refine zR (ja3 @stR.eq_1 iR @d0) ?_|exact zU (ja3 @stR.eq_1 iR @d0))
  refine At.of (j+1) ⟨by omega,by omega⟩ zO rfl rfl (Nat.le_refl _) ?_ ?_
  iterate 2 (case _=>(first|exact yU BI3|refine yR BI3 ?_))
theorem Zc7 [Tabs Tryz.prog] (x n:Nat) (hn:n≤400000):HCon Tryz.prog ZaN [int (x:Int),int (n:Int)] [] (.own 5 (n+3) none 0 n) [(5,n+3,.row (nl0 n) ((List.replicate n x).map nA))] (n+4):=by
 refine HCon.of' mix Tryz.func28 rfl Tryz.ntmps28 Zj8 Zj9 zB (by simp [AV.gl,AV.gl.glL,int]) zB ?_
 unfold Zfz
 repeat (first|refine zS ?_|exact zT)
 refine SWp.adopt 5 none yT ?_
 refine SWp.loop (α:=Nat × Nat) (fun z=>mk 17 (2+z.1) [(0,int (x:Int)),(1,int (n:Int)),(5,.own 5 z.2 none 0 z.1),(6,int (z.1:Int))] [(5,z.2,.row (nl0 z.1) ((List.replicate z.1 x).map nA))])
  (fun z=>z.1≤n) (fun z=>n-z.1) (0,1) (Nat.zero_le _) (Zaj rfl ?_ ?_ ?_) ?_
 ·exact Nat.le_refl _
 iterate 2 (case _=>(first|exact yU @Zbh|refine yR @Zbh ?_))
 rintro ⟨k,g⟩ hk -
 simp only at hk
 have hr:List.replicate (k+1) x=List.replicate k x++[x]:=List.replicate_succ'
 have hl:(List.replicate k x).length=k:=List.length_replicate
 obtain ⟨X,hX⟩:∃ X,X=List.replicate k x:=⟨_,rfl⟩
 rw [←hX] at hr hl ⊢
 repeat (first|refine zS ?_|exact zT)
 refine SWp.cond rfl (fun h=>?_) (fun h=>?_)
 ·simp only [decide_eq_true_eq] at h
  repeat (first|refine zR @hl ?_|exact zU @hl)
  refine At.of (k+1,2+k) (by simp only;omega) (by simp only;omega) rfl rfl ?_ ?_ ?_
  ·simp only;omega
  iterate 2 (case _=>(first|exact yU (ja3 @hr @Zbi @nA.eq_1)|refine yR (ja3 @hr @Zbi @nA.eq_1) ?_))
 ·simp only [decide_eq_false_iff_not] at h
  obtain rfl:k=n:=zO
  refine SWp.le (Zaj (N:=17) (gc:=k+3) (l:=[(5,.own 5 g none 0 k)]) (h:=[(5,g,.row (nl0 k) (X.map nA))]) rfl ?_ ?_ ?_) ?_
  ·show 2+k≤k+3;omega
  iterate 2 (case _=>(first|exact yT|refine yS ?_))
  refine SWp.renew 5 g (o:=.row (nl0 k) (X.map nA)) yT ?_
  refine SWp.le (Zaj (N:=17) (gc:=k+4) (l:=[(5,.own 5 (k+3) none 0 k)]) (h:=[(5,k+3,.row (nl0 k) (X.map nA))]) rfl ?_ ?_ ?_) ?_
  ·exact Nat.le_refl _
  iterate 2 (case _=>(first|exact yU (ja3 @Zba @Zbb iR)|refine yR (ja3 @Zba @Zbb iR) ?_))
  repeat (first|refine zR hX.symm ?_|exact zU hX.symm)
theorem Zvd [Tabs Tryz.prog] (nl:Bool) (l:List Nat) (h15:∀ x∈l,x≤15) (hl:l.length≤320) (hK:Zav l≤32768):Con Tryz.prog Zdn [.sl nl none (l.map nA)] (.tup [.sl l.isEmpty none ((Za2 l).map nA),int 0]):=by
 have h:=ZuH nl (l.map Int.ofNat) (by rw [ZHt h15 hl,if_neg zO]) l toNat_ofNat.symm
 rw [←Zx5] at h
 exact h
theorem Znb [Tabs Tryz.prog] (nl:Bool) (l:List Nat) (h15:∀ x∈l,x≤15) (hl:l.length≤1000):Con Tryz.prog ZbU [.sl nl none (l.map nA)] (boo (fulN l)):=by
 have h:=ZxX nl (l.map Int.ofNat) (by rw [List.length_map];exact hl)
 rw [←Zx5] at h
 have e:Zl1 (l.map Int.ofNat)=fulN l:=by
  unfold Zl1 fulN
  rw [toNat_ofNat]
  by_cases c:l.length≤320
  ·rw [ZHt h15 c]
   by_cases c2:Zav l=32768
   ·rw [if_neg zO,decide_eq_true c2,decide_eq_true (show l.length≤320∧Zav l=32768 from ⟨c,c2⟩)];rfl
   ·rw [decide_eq_false c2,Bool.and_false,decide_eq_false (fun h=>c2 h.2)]
  ·rw [decide_eq_false (fun h:l.length≤320∧_=>c h.1),decide_eq_false,Bool.false_and]
   unfold chk
   rw [List.length_map,if_pos zO]
   omega
 rw [e] at h
 exact h
def BI5:=ja2 @cdG.eq_1 iR
theorem ZjH [Tabs Tryz.prog] (nl:Bool) (l:List Nat) (h15:∀ x∈l,x≤15) (hl:l.length≤320) (hK:Zav l≤32768):Con Tryz.prog Zbu [.sl nl none (l.map nA)] (cdG nl l.isEmpty l):=by
 refine Con.of' mix Tryz.func27 rfl Tryz.ntmps27 ZkP ZkQ zB (by simp only [AV.free,AV.free.freeL,Zaa,Bool.and_self]) Zmn ?_
 unfold Zgo
 have hC:=Zvd nl l h15 hl hK
 repeat (first|refine zS ?_|exact zT)
 refine Zaz _ (.inl ⟨by simp only [AV.free,AV.free.freeL,Zaa,Bool.and_self],hC⟩) ?_
 repeat (first|refine zR BI5 ?_|exact zU BI5)
theorem Zyr [Tabs Tryz.prog]:Con Tryz.prog Zfw [] (cdG false false ZpO):=by
 refine Con.of' mix Tryz.func26 rfl Tryz.ntmps26 Zj6 Zj7 zB rfl Zmn ?_
 unfold Zfy
 have p1:=Zc7 8 144 zO
 have p2:=Zc7 9 112 zO
 have p3:=Zc7 7 24 zO
 have p4:=Zc7 8 8 zO
 have pm:=ZjH false ZpO ZbR.1 (by rw [ZbR.2.1];omega) (by rw [ZbR.2.2];omega)
 have hL:List.replicate 144 8++(List.replicate 112 9++(List.replicate 24 7++List.replicate 8 8))=ZpO:=rfl
 have hem:ZpO.isEmpty=false:=rfl
 rw [hem] at pm
 obtain ⟨A,hA⟩:∃ A,A=List.replicate 144 8:=⟨_,rfl⟩
 obtain ⟨B,hB⟩:∃ B,B=List.replicate 112 9:=⟨_,rfl⟩
 obtain ⟨C,hC⟩:∃ C,C=List.replicate 24 7:=⟨_,rfl⟩
 obtain ⟨D,hD⟩:∃ D,D=List.replicate 8 8:=⟨_,rfl⟩
 have lA:A.length=144:=by rw [hA];rfl
 have lB:B.length=112:=by rw [hB];rfl
 have lC:C.length=24:=by rw [hC];rfl
 have lD:D.length=8:=by rw [hD];rfl
 rw [←hA] at p1 hL
 rw [←hB] at p2 hL
 rw [←hC] at p3 hL
 rw [←hD] at p4 hL
 have hAB:A.map nA++B.map nA=(A++B).map nA:=by rw [List.map_append]
 repeat (first|refine zS ?_|exact zT)
 refine Zae [] 1000 p1 zB zB ?_ ?_ ?_
 iterate 2 (case _=>(first|exact yT|refine yS ?_))
 repeat (first|refine zR (ja2 @lA @Zbi) ?_|exact zU (ja2 @lA @Zbi))
 refine Zae [] 2000 p2 zB zB ?_ ?_ ?_
 iterate 2 (case _=>(first|exact yT|refine yS ?_))
 repeat (first|refine zR (ja3 @lA @lB iR) ?_|exact zU (ja3 @lA @lB iR))
 refine Zae [] 3000 p3 zB zB ?_ ?_ ?_
 iterate 2 (case _=>(first|exact yT|refine yS ?_))
 repeat (first|refine zR (ja4 @lA @lB @lC iR) ?_|exact zU (ja4 @lA @lB @lC iR))
 refine Zae [] 4000 p4 zB zB ?_ ?_ ?_
 iterate 2 (case _=>(first|exact yT|refine yS ?_))
 repeat (first|refine zR (ja5 @lA @lB @lC @lD iR) ?_|exact zU (ja5 @lA @lB @lC @lD iR))
 have hcat:A.map nA++(B.map nA++(C.map nA++D.map nA))=ZpO.map nA:=by rw [←hL];simp only [List.map_append]
 have hfr:AV.free.freeL (A.map nA++(B.map nA++(C.map nA++D.map nA)))=true:=by rw [hcat];exact Zaa
 have htk:(ZpO.map nA).take 288=ZpO.map nA:=List.take_of_length_le (by rw [List.length_map,ZbR.2.1];exact Nat.le_refl _)
 have hfl:ZpO.length=288:=ZbR.2.1
 refine Zfj 1005 307 (nl:=false) (cells:=A.map nA++(B.map nA++(C.map nA++D.map nA))) [.sl false none (ZpO.map nA)] _ yT hfr ?_ (yU @Zaa) pm ?_
 ·rw [hcat]
  (first|exact yU (ja3 fR @htk @hfl)|refine yR (ja3 fR @htk @hfl) ?_)
 repeat (first|refine zR BI5 ?_|exact zU BI5)
theorem Zpv {b:List UInt8} {i m:Nat}:∀ {n:Nat},ZaY b i (m+n)=ZaY b i m+2^m*ZaY b (i+m) n
 | 0=>by simp [ZaY,Zeq]
 | n+1=>by
  rw [←Nat.add_assoc,ZmW,Zpv (n:=n),ZmW,Nat.mul_add,Nat.pow_add,Nat.mul_assoc]
  rw [show i+(m+n)=i+m+n by omega]
  omega
def K2 (most F L:Nat) (out:List UInt8) (ls:List Nat):BT (List UInt8):=if ZuJ (ls.take L) (ls.drop L)=true then ZoT (ls.take L) (ls.drop L) most F out else .err 3
def K1 (most F L D:Nat) (out:List UInt8) (th:List Nat):BT (List UInt8):=if fulN th=true then (lsT th (L+D) 400 []).bnd (K2 most F L out) else .err 3
theorem ZGi {b:List UInt8} {most F i:Nat} {out:List UInt8} (hi:i≤8*b.length):(ZsN.bnd fun p=>ZoT p.1 p.2 most F out).run (Zah b) i =
  if i+14≤8*b.length then
   (if 286<ZaY b i 5+257∨30<ZaY b (i+5) 5+1 then .no 3 else ((ZpN (ZaY b (i+5+5) 4+4) 0 (List.replicate 19 0)).bnd (K1 most F (ZaY b i 5+257) (ZaY b (i+5) 5+1) out)).run (Zah b) (i+5+5+4))
  else .no 2:=by
 rw [Zal,ZsN,Zal,ZeX hi]
 by_cases c1:i+14≤8*b.length
 ·rw [if_pos c1,if_pos c1]
  simp only [BR.bnd]
  have h14:ZaY b i 14=ZaY b i 5+32*(ZaY b (i+5) 5+32*ZaY b (i+5+5) 4):=by
   rw [show (14:Nat)=5+(5+4) from rfl,Zpv,Zpv]
  have h5:=Ze1 (b:=b) (i:=i) (n:=5)
  have h5':=Ze1 (b:=b) (i:=i+5) (n:=5)
  have eL:ZaY b i 14 % 32=ZaY b i 5:=zO
  have eD:ZaY b i 14 / 32 % 32=ZaY b (i+5) 5:=zO
  have eN:ZaY b i 14 / 1024=ZaY b (i+5+5) 4:=zO
  rw [eL,eD,eN]
  by_cases c2:286<ZaY b i 5+257∨30<ZaY b (i+5) 5+1
  ·rw [if_pos c2,if_pos c2];rfl
  ·rw [if_neg c2,if_neg c2,show i+5+5+4=i+14 by omega,Zal,Zal,ZvC,Zal]
   cases (ZpN (ZaY b (i+5+5) 4+4) 0 (List.replicate 19 0)).run (Zah b) (i+14) with
   | no e=>rfl
   | ok th j =>
    simp only [BR.bnd,K1]
    by_cases c3:fulN th=true
    ·rw [if_pos c3,if_pos c3,Zal]
     simp only [BT.run,BR.bnd,Zal]
     cases (lsT th (ZaY b i 5+257+(ZaY b (i+5) 5+1)) 400 []).run (Zah b) j with
     | no e=>rfl
     | ok ls k =>
      simp only [BR.bnd,K2]
      by_cases c4:ZuJ (ls.take (ZaY b i 5+257)) (ls.drop (ZaY b i 5+257))=true
      ·rw [if_pos c4,if_pos c4];rfl
      ·rw [if_neg c4,if_neg c4];rfl
    ·rw [if_neg c3,if_neg c3];rfl
 ·rw [if_neg c1,if_neg c1];rfl
def usd (l:List Nat):Nat:=l.foldl (fun n x=>if 0<x then n+1 else n) 0
def mst (l:List Nat):Nat:=l.foldl (fun n x=>if n<x then x else n) 0
theorem Zwp {l:List Nat} {x:Nat}:usd (l++[x])=if 0<x then usd l+1 else usd l:=by unfold usd;rw [List.foldl_append];rfl
theorem Zwq {l:List Nat} {x:Nat}:mst (l++[x])=if mst l<x then x else mst l:=by unfold mst;rw [List.foldl_append];rfl
theorem Ztw:∀ (n:Nat) (l:List Nat),l.length=n→usd l≤l.length∧usd l≤l.sum∧mst l≤l.sum∧l.sum≤usd l*mst l:=by
 intro n
 induction n with
 | zero=>intro l h;rw [List.length_eq_zero_iff.1 h];simp [usd,mst]
 | succ n ih =>
  intro l h
  have hne:l≠[]:=fun e=>by rw [e] at h;simp at h
  obtain ⟨m,x,rfl⟩:∃ m x,l=m++[x]:=⟨l.dropLast,l.getLast hne,(List.dropLast_concat_getLast hne).symm⟩
  rw [List.length_append,List.length_singleton] at h
  obtain ⟨h1,h2,h3,h4⟩:=ih m zO
  rw [Zwp,Zwq,List.sum_append,List.length_append,List.length_singleton]
  simp only [List.sum_cons,List.sum_nil,Nat.add_zero]
  by_cases c:0<x
  ·rw [if_pos c]
   by_cases c2:mst m<x
   ·rw [if_pos c2]
    have:=Nat.mul_le_mul_left (usd m) (Nat.le_of_lt c2)
    rw [Nat.add_mul]
    omega
   ·rw [if_neg c2,Nat.add_mul]
    omega
  ·rw [if_neg c,if_neg zO]
   omega
theorem ZGj {d:List Nat}:decide (d.sum≤1)=!(decide (1<usd d) || decide (1<mst d)):=by
 obtain ⟨_,h2,h3,h4⟩:=Ztw _ d rfl
 by_cases c:d.sum≤1
 ·rw [decide_eq_true c,decide_eq_false zO,decide_eq_false zO];rfl
 ·rw [decide_eq_false c]
  by_cases c2:1<usd d
  ·rw [decide_eq_true c2];rfl
  ·by_cases c3:1<mst d
   ·rw [decide_eq_true c3,Bool.or_true];rfl
   ·exfalso
    have:usd d*mst d≤1*1:=Nat.mul_le_mul zO zO
    omega
theorem ZiE {b:List UInt8} {n i e:Nat} (hn:n≤24) (hi:i≤8*b.length):(nuS (Zah b) n i e).1<2^n∧(nuS (Zah b) n i e).2.1≤8*b.length:=by
 refine ⟨ZBB ZdI,?_⟩
 unfold nuS
 split
 ·exact hi
 ·rw [Zac];split <;> simp only <;> omega
theorem ZBE {b:List UInt8} {most F i:Nat} {out:List UInt8} {r:BR (List UInt8)} (hi:i≤8*b.length) (hr:(ZsN.bnd fun p=>ZoT p.1 p.2 most F out).run (Zah b) i=r)
  {x p1 e1 y p2 e2 z p3 e3 e4:Nat} (h1:nuS (Zah b) 5 i 0=(x,p1,e1)) (h2:nuS (Zah b) 5 p1 e1=(y,p2,e2)) (h3:nuS (Zah b) 4 p2 e2=(z,p3,e3)) (h4:e4=if (286<x+257∨30<y+1)∧e3=0 then 3 else e3) :
  x<32∧y<32∧z<16∧p3≤8*b.length∧((e4=0∧x+257≤286∧y+1≤30∧((ZpN (z+4) 0 (List.replicate 19 0)).bnd (K1 most F (x+257) (y+1) out)).run (Zah b) p3=r)∨(e4≠0∧r = .no e4)):=by
 have f1:=ZiE (b:=b) (n:=5) (i:=i) (e:=0) zO hi
 rw [h1] at f1
 have f2:=ZiE (b:=b) (n:=5) (i:=p1) (e:=e1) zO f1.2
 rw [h2] at f2
 have f3:=ZiE (b:=b) (n:=4) (i:=p2) (e:=e2) zO f2.2
 rw [h3] at f3
 simp only at f1 f2 f3
 refine ⟨by omega,by omega,by omega,f3.2,?_⟩
 rw [ZGi hi] at hr
 by_cases c1:i+5≤8*b.length
 ·rw [Ztu c1] at h1
  simp only [Prod.mk.injEq] at h1
  obtain ⟨rfl,rfl,rfl⟩:=h1
  by_cases c2:i+5+5≤8*b.length
  ·rw [Ztu c2] at h2
   simp only [Prod.mk.injEq] at h2
   obtain ⟨rfl,rfl,rfl⟩:=h2
   by_cases c3:i+5+5+4≤8*b.length
   ·rw [Ztu c3] at h3
    simp only [Prod.mk.injEq] at h3
    obtain ⟨rfl,rfl,rfl⟩:=h3
    rw [if_pos zO] at hr
    by_cases c4:286<ZaY b i 5+257∨30<ZaY b (i+5) 5+1
    ·rw [if_pos c4] at hr
     rw [if_pos ⟨c4,rfl⟩] at h4
     exact .inr ⟨by omega,by rw [h4];exact hr.symm⟩
    ·rw [if_neg c4] at hr
     rw [if_neg (fun h=>c4 h.1)] at h4
     exact .inl ⟨h4,by omega,by omega,hr⟩
   ·rw [Ztv c3] at h3
    simp only [Prod.mk.injEq] at h3
    obtain ⟨rfl,rfl,rfl⟩:=h3
    rw [if_neg zO] at hr
    rw [if_neg (fun h=>by omega)] at h4
    exact .inr ⟨by omega,by rw [h4];exact hr.symm⟩
  ·rw [Ztv c2] at h2
   simp only [Prod.mk.injEq] at h2
   obtain ⟨rfl,rfl,rfl⟩:=h2
   rw [Zyq zO] at h3
   simp only [Prod.mk.injEq] at h3
   obtain ⟨rfl,rfl,rfl⟩:=h3
   rw [if_neg zO] at hr
   rw [if_neg (fun h=>by omega)] at h4
   exact .inr ⟨by omega,by rw [h4];exact hr.symm⟩
 ·rw [Ztv c1] at h1
  simp only [Prod.mk.injEq] at h1
  obtain ⟨rfl,rfl,rfl⟩:=h1
  rw [Zyq zO] at h2
  simp only [Prod.mk.injEq] at h2
  obtain ⟨rfl,rfl,rfl⟩:=h2
  rw [Zyq zO] at h3
  simp only [Prod.mk.injEq] at h3
  obtain ⟨rfl,rfl,rfl⟩:=h3
  rw [if_neg zO] at hr
  rw [if_neg (fun h=>by omega)] at h4
  exact .inr ⟨by omega,by rw [h4];exact hr.symm⟩
theorem ZGk {B th:List Nat} {N f s p y n p2 e2 e3:Nat} {lens:List Nat} {K:List Nat→BT (List UInt8)} {r:BR (List UInt8)} (h16:¬ (s=16∧lens=[])) (hy:y=lsV s lens)
  (hp:(Zfd (lsN s) (lsB s)).run B p=if e2=0 then .ok n p2 else .no e2) (he3:e3=if N<lens.length+n∧e2=0 then 3 else e2)
  (hrun:((if s=16∧lens=[] then BT.err 3 else (Zfd (lsN s) (lsB s)).bnd fun t=>if N<lens.length+t then .err 3 else lsT th N f (lens++List.replicate t (lsV s lens))).run B p).bnd (fun a j=>(K a).run B j)=r) :
  (e3=0∧((lsT th N f (lens++List.replicate n y)).bnd K).run B p2=r∧lens.length+n≤N)∨(e3≠0∧r = .no e3):=by
 rw [if_neg h16,Zal,hp] at hrun
 by_cases c:e2=0
 ·rw [if_pos c] at hrun
  simp only [BR.bnd] at hrun
  by_cases c2:N<lens.length+n
  ·rw [if_pos c2] at hrun
   rw [if_pos ⟨c2,c⟩] at he3
   exact .inr ⟨by omega,by rw [he3];exact hrun.symm⟩
  ·rw [if_neg c2] at hrun
   rw [if_neg (fun q=>c2 q.1)] at he3
   refine .inl ⟨by omega,?_,by omega⟩
   rw [Zal,hy]
   exact hrun
 ·rw [if_neg c] at hrun
  rw [if_neg (fun q=>c q.2)] at he3
  exact .inr ⟨by omega,by rw [he3];exact hrun.symm⟩
theorem ZHY {s:Nat} {lens:List Nat} (hs:s<19) (h16:¬ (s=16∧lens=[])) (h15:∀ y∈lens,y≤15):lsV s lens≤15:=by
 unfold lsV
 split
 ·rename_i e16
  have hne:lens≠[]:=fun h=>h16 ⟨e16,h⟩
  have h0:lens.length-1<lens.length:=by have:=List.length_pos_iff.2 hne;omega
  have:lens.getD (lens.length-1) 0=lens[lens.length-1]:=by simp [List.getD,List.getElem?_eq_getElem h0]
  rw [this];exact h15 _ (List.getElem_mem h0)
 ·split
  ·omega
  ·omega
theorem ZGl {lens:List Nat} {n y:Nat} (hy:y≤15) (h15:∀ x∈lens,x≤15):∀ x∈lens++List.replicate n y,x≤15:=by
 intro x hx
 rcases List.mem_append.1 hx with hx | hx
 ·exact h15 x hx
 ·rw [(List.mem_replicate.1 hx).2];exact hy
def BI12:=ja6 @Nat.sub_self @List.take_zero.{0} @usd.eq_1 @mst.eq_1 @List.foldl_nil.{0,0} @stR.eq_1
set_option maxHeartbeats 8000000 in
theorem ZBF [Tabs Tryz.prog] (nb:Bool) (b:List UInt8) (hb:b.length≤40000) (most:Nat) (hm:most≤16777216) (i:Nat) (hi:i≤8*b.length) (out:List UInt8) (ho:out.length≤most) (F:Nat) (hF:8*b.length<F) (r:BR (List UInt8)) (hr:(ZsN.bnd fun p=>ZoT p.1 p.2 most F out).run (Zah b) i=r) :
  HCon Tryz.prog Zds [.op 1000 0 0] (stI nb (Zah b) most i 0 out) (.tup []) (Zcy (1000*F+500000) nb (Zah b) most r) (1000*F+500001):=by
 refine HCon.of' mix Tryz.func29 rfl Tryz.ntmps29 Zhh Zhi zB (by simp [AV.gl,AV.gl.glL]) Ztt ?_
 unfold Zdw
 have hBl:(Zah b).length=8*b.length:=Zac
 have hNum:=fun i e hi out n hn=>ZgJ nb (Zah b) (by rw [hBl];omega) ZdI most i e hi out n hn
 have fact:=fun {n i e:Nat} (hn:n≤24) (hi:i≤8*b.length)=>ZiE (b:=b) (e:=e) hn hi
 have ok:=fun {n i:Nat} (h:i+n≤8*b.length)=>Ztu (b:=b) h
 have no:=fun {n i:Nat} (h:¬ i+n≤8*b.length)=>Ztv (b:=b) h
 have ke:=fun {n i e:Nat} (h:e≠0)=>Zyq (B:=Zah b) (n:=n) (i:=i) h
 obtain ⟨⟨x,p1,e1⟩,h1⟩:∃ s,nuS (Zah b) 5 i 0=s:=⟨_,rfl⟩
 obtain ⟨⟨y,p2,e2⟩,h2⟩:∃ s,nuS (Zah b) 5 p1 e1=s:=⟨_,rfl⟩
 obtain ⟨⟨z,p3,e3⟩,h3⟩:∃ s,nuS (Zah b) 4 p2 e2=s:=⟨_,rfl⟩
 obtain ⟨e4,h4⟩:∃ e4,e4=if (286<x+257∨30<y+1)∧e3=0 then 3 else e3:=⟨_,rfl⟩
 obtain ⟨hx32,hy32,hz16,hp3,hinv⟩:=ZBE hi hr h1 h2 h3 h4
 have hrT:=fun {n i:Nat} (h:i≤8*b.length)=>ZeX (b:=b) (n:=n) h
 have hp1:p1≤8*b.length:=by have:=(fact (n:=5) (i:=i) (e:=0) zO hi).2;rw [h1] at this;exact this
 have hp2:p2≤8*b.length:=by have:=(fact (n:=5) (i:=p1) (e:=e1) zO hp1).2;rw [h2] at this;exact this
 have c1:=hNum i 0 zO out 5 zO
 have c2:=hNum p1 e1 zO out 5 zO
 have c3:=hNum p2 e2 zO out 4 zO
 rw [h1] at c1
 rw [h2] at c2
 rw [h3] at c3
 have c4:=Zbz nb (Zah b) most p3 e3 out (decide (286<x+257∨30<y+1)) 3
 have hee:(if decide (286<x+257∨30<y+1)=true∧e3=0 then 3 else e3)=e4:=by rw [h4];simp only [decide_eq_true_eq]
 rw [hee] at c4
 clear h1 h2 h3 h4 hee hr
 obtain ⟨L,hL⟩:∃ L,L=x+257:=⟨_,rfl⟩
 obtain ⟨D,hD⟩:∃ D,D=y+1:=⟨_,rfl⟩
 obtain ⟨N,hN⟩:∃ N,N=z+4:=⟨_,rfl⟩
 have eL:(x:Int)+257=(L:Int):=zO
 have eD:(y:Int)+1=(D:Int):=zO
 have eN:(z:Int)+4=(N:Int):=zO
 rw [←hL,←hD,←hN] at hinv
 rw [←hL,←hD] at c4
 have hB2:=ZdI (l:=b)
 obtain ⟨B,hB⟩:∃ B,B=Zah b:=⟨_,rfl⟩
 rw [←hB] at hBl hB2
 simp only [←hB] at hNum fact ok no ke c1 c2 c3 c4 hinv hrT ⊢
 have q1:decide ((286:Int)<(L:Int))=decide (286<L):=decide_eq_decide.2 zO
 have q2:decide ((30:Int)<(D:Int))=decide (30<D):=decide_eq_decide.2 zO
 obtain ⟨TT,hTT⟩:∃ TT,TT=Ziv:=⟨_,rfl⟩
 have hTl:TT.length=19:=by rw [hTT];rfl
 have hTx:∀ k,k<19→TT.getD k 0<19:=by rw [hTT];exact ZvK
 have hTe:[AV.sc (.int .i64 16),.sc (.int .i64 17),.sc (.int .i64 18),.sc (.int .i64 0),.sc (.int .i64 8),.sc (.int .i64 7),.sc (.int .i64 9),.sc (.int .i64 6),.sc (.int .i64 10),.sc (.int .i64 5),.sc (.int .i64 11),.sc (.int .i64 4),.sc (.int .i64 12),.sc (.int .i64 3),.sc (.int .i64 13),.sc (.int .i64 2),.sc (.int .i64 14),.sc (.int .i64 1),.sc (.int .i64 15)]=TT.map nA:=by rw [hTT];rfl
 have ptm:=Zc7 0 19 zO
 obtain ⟨Z,hZ⟩:∃ Z:List Nat,Z=List.replicate 19 0:=⟨_,rfl⟩
 have hZl:Z.length=19:=by rw [hZ];rfl
 have hZ7:∀ x∈Z,x≤7:=by rw [hZ];simp
 rw [←hZ] at ptm hinv
 have hl0:nl0 19=false:=rfl
 rw [hl0] at ptm
 refine SWp.to (F:=mk 190 2 [(0,.op 1000 0 0),(2,int (L:Int))] [(1000,0,.row false (stR nb B most 0 out.length p1 e1)),(1001,0,.row (nl0 out.length) (out.map u8))]) ?_ ?_
 ·repeat (first|refine zS ?_|exact zT)
  refine Zae [(1000,0),(1001,0)] 2000 c1 zB zB ?_ ?_ ?_
  iterate 2 (case _=>(first|exact yU BI0|refine yR BI0 ?_))
  repeat (first|refine zR (ja4 @stO.eq_1 @stR.eq_1 iR @eL) ?_|exact zU (ja4 @stO.eq_1 @stR.eq_1 iR @eL))
  exact Zaj rfl (Nat.le_refl _) yT (yU BI3)
 refine SWp.to (F:=mk 190 3 [(0,.op 1000 0 0),(2,int (L:Int)),(3,int (D:Int))] [(1000,0,.row false (stR nb B most 0 out.length p2 e2)),(1001,0,.row (nl0 out.length) (out.map u8))]) ?_ ?_
 ·repeat (first|refine zS ?_|exact zT)
  refine Zae [(1000,0),(1001,0)] 3000 c2 zB zB ?_ ?_ ?_
  iterate 2 (case _=>(first|exact yU BI0|refine yR BI0 ?_))
  repeat (first|refine zR (ja4 @stO.eq_1 @stR.eq_1 iR @eD) ?_|exact zU (ja4 @stO.eq_1 @stR.eq_1 iR @eD))
  exact Zaj rfl (Nat.le_refl _) yT (yU BI3)
 refine SWp.to (F:=mk 190 4 [(0,.op 1000 0 0),(2,int (L:Int)),(3,int (D:Int)),(4,int (N:Int))] [(1000,0,.row false (stR nb B most 0 out.length p3 e3)),(1001,0,.row (nl0 out.length) (out.map u8))]) ?_ ?_
 ·repeat (first|refine zS ?_|exact zT)
  refine Zae [(1000,0),(1001,0)] 4000 c3 zB zB ?_ ?_ ?_
  iterate 2 (case _=>(first|exact yU BI0|refine yR BI0 ?_))
  repeat (first|refine zR (ja4 @stO.eq_1 @stR.eq_1 iR @eN) ?_|exact zU (ja4 @stO.eq_1 @stR.eq_1 iR @eN))
  exact Zaj rfl (Nat.le_refl _) yT (yU BI3)
 refine SWp.to (F:=mk 190 5 [(0,.op 1000 0 0),(2,int (L:Int)),(3,int (D:Int)),(4,int (N:Int))] [(1000,0,.row false (stR nb B most 0 out.length p3 e4)),(1001,0,.row (nl0 out.length) (out.map u8))]) ?_ ?_
 ·by_cases k1:286<L
  ·have d1:decide ((286:Int)<(L:Int))=true:=decide_eq_true zO
   rw [decide_eq_true (show 286<L∨30<D from .inl k1)] at c4
   repeat (first|refine zR @d1 ?_|exact zU @d1)
   refine Zae [(1000,0),(1001,0)] 5000 c4 zB zB ?_ ?_ ?_
   iterate 2 (case _=>(first|exact yU BI0|refine yR BI0 ?_))
   (first|exact yU BI1|refine yR BI1 ?_)
   exact Zaj rfl (Nat.le_refl _) yT (yU BI3)
  ·have d1:decide ((286:Int)<(L:Int))=false:=decide_eq_false zO
   by_cases k2:30<D
   ·have d2:decide ((30:Int)<(D:Int))=true:=decide_eq_true zO
    rw [decide_eq_true (show 286<L∨30<D from .inr k2)] at c4
    repeat (first|refine zR (ja2 @d1 @d2) ?_|exact zU (ja2 @d1 @d2))
    refine Zae [(1000,0),(1001,0)] 5000 c4 zB zB ?_ ?_ ?_
    iterate 2 (case _=>(first|exact yU BI0|refine yR BI0 ?_))
    (first|exact yU BI1|refine yR BI1 ?_)
    exact Zaj rfl (Nat.le_refl _) yT (yU BI3)
   ·have d2:decide ((30:Int)<(D:Int))=false:=decide_eq_false zO
    rw [decide_eq_false (show ¬ (286<L∨30<D) by omega)] at c4
    repeat (first|refine zR (ja2 @d1 @d2) ?_|exact zU (ja2 @d1 @d2))
    refine Zae [(1000,0),(1001,0)] 5000 c4 zB zB ?_ ?_ ?_
    iterate 2 (case _=>(first|exact yU BI0|refine yR BI0 ?_))
    (first|exact yU BI1|refine yR BI1 ?_)
    exact Zaj rfl (Nat.le_refl _) yT (yU BI3)
 clear c1 c2 c3 c4 q1 q2 hp1 hp2
 repeat (first|refine zS ?_|exact zT)
 refine Zae [] 4000 ptm zB zB ?_ ?_ ?_
 iterate 2 (case _=>(first|exact yT|refine yS ?_))
 repeat (first|refine zR @hTe ?_|exact zU @hTe)
 refine SWp.loop (α:=Nat × List Nat × Nat × Nat) (fun x=>mk 190 (29+x.1) [(0,.op 1000 0 0),(2,int (L:Int)),(3,int (D:Int)),(4,int (N:Int)),(5,.own 33 5 none 0 19),(6,.own 4005 28 none 0 19),(7,int (x.1:Int))] [(1000,0,.row false (stR nb B most 0 out.length x.2.2.1 x.2.2.2)),(1001,0,.row (nl0 out.length) (out.map u8)),(33,5,.row false (TT.map nA)),(4005,28,.row false (x.2.1.map nA))])
  (fun x=>x.1≤N∧x.2.1.length=19∧(∀ y∈x.2.1,y≤7)∧x.2.2.1≤8*b.length∧((x.2.2.2=0∧L≤286∧D≤30∧((ZpN (N-x.1) x.1 x.2.1).bnd (K1 most F L D out)).run B x.2.2.1=r)∨(x.2.2.2≠0∧r = .no x.2.2.2))) (fun x=>N-x.1) (0,Z,p3,e4) ⟨Nat.zero_le _,hZl,hZ7,hp3,hinv⟩ (Zaj rfl ?_ ?_ ?_) ?_
 ·exact Nat.le_refl _
 iterate 2 (case _=>(first|exact yU BI3|refine yR BI3 ?_))
 clear hinv
 rintro ⟨k,th,at0,e⟩ ⟨hk,hthl,hth7,hat,hinv⟩ -
 simp only at hk hthl hth7 hat hinv
 repeat (first|refine zS ?_|exact zT)
 refine SWp.cond rfl (fun h=>?_) (fun h=>?_)
 ·simp only [decide_eq_true_eq] at h
  have c1:=hNum at0 e zO out 3 zO
  have f1:=fact (n:=3) (i:=at0) (e:=e) zO hat
  obtain ⟨f,hf⟩:∃ f,N-k=f+1:=⟨N-k-1,by omega⟩
  rw [hf] at hinv
  obtain ⟨⟨v,at1,e1⟩,hv⟩:∃ s,nuS B 3 at0 e=s:=⟨_,rfl⟩
  rw [hv] at c1 f1
  simp only at f1
  have hw:=hTx k zO
  obtain ⟨w,hwd⟩:∃ w,w=TT.getD k 0:=⟨_,rfl⟩
  have hinv2:(e1=0∧L≤286∧D≤30∧((ZpN f (k+1) (th.set w v)).bnd (K1 most F L D out)).run B at1=r)∨(e1≠0∧r = .no e1):=by
   rcases hinv with ⟨rfl,hL6,hD0,hrun⟩ | ⟨he,hr⟩
   ·rw [ZpN,Zal,Zal,hrT hat] at hrun
    by_cases q:at0+3≤8*b.length
    ·rw [ok q] at hv
     simp only [Prod.mk.injEq] at hv
     obtain ⟨rfl,rfl,rfl⟩:=hv
     rw [if_pos q] at hrun
     rw [hwd,hTT]
     exact .inl ⟨rfl,hL6,hD0,by rw [Zal];exact hrun⟩
    ·rw [no q] at hv
     simp only [Prod.mk.injEq] at hv
     obtain ⟨rfl,rfl,rfl⟩:=hv
     rw [if_neg q] at hrun
     exact .inr ⟨by omega,hrun.symm⟩
   ·rw [ke he] at hv
    simp only [Prod.mk.injEq] at hv
    obtain ⟨rfl,rfl,rfl⟩:=hv
    exact .inr ⟨he,hr⟩
  rw [←hwd] at hw
  have hsp:=ZbJ (l:=th) (k:=w) (x:=v) zO
  repeat (first|refine zR (ja3 @stR.eq_1 iR hwd.symm) ?_|exact zU (ja3 @stR.eq_1 iR hwd.symm))
  refine Zae [(1000,0),(1001,0)] 6000 c1 zB zB ?_ ?_ ?_
  iterate 2 (case _=>(first|exact yU BI0|refine yR BI0 ?_))
  repeat (first|refine zR (ja6 @stO.eq_1 @stR.eq_1 iR hwd.symm @hTl @hthl) ?_|exact zU (ja6 @stO.eq_1 @stR.eq_1 iR hwd.symm @hTl @hthl))
  refine At.of (k+1,th.set w v,at1,e1) ⟨by simp only;omega,by simp only [List.length_set];exact hthl,?_,f1.2,by simp only;rw [show N-(k+1)=f by omega];exact hinv2⟩ (by simp only;omega) rfl rfl ?_ ?_ ?_
  ·intro y hy
   rcases List.mem_or_eq_of_mem_set hy with hy | rfl
   ·exact hth7 y hy
   ·omega
  ·simp only;omega
  iterate 2 (case _=>(first|exact yU (ja3 @stR.eq_1 iR @hsp)|refine yR (ja3 @stR.eq_1 iR @hsp) ?_))
 simp only [decide_eq_false_iff_not] at h
 obtain rfl:k=N:=zO
 rw [Nat.sub_self] at hinv
 simp only [ZpN,BT.bnd] at hinv
 have hFull:=Znb false th (fun x hx=>by have:=hth7 x hx;omega) zO
 have cb:=Zbz nb B most at0 e out (!fulN th) 3
 obtain ⟨e5,he5⟩:∃ e5,e5=if (!fulN th)=true∧e=0 then 3 else e:=⟨_,rfl⟩
 rw [←he5] at cb
 have hinv3:(e5=0∧fulN th=true∧L≤286∧D≤30∧((lsT th (L+D) 400 []).bnd (K2 most F L out)).run B at0=r)∨(e5≠0∧r = .no e5):=by
  rcases hinv with ⟨rfl,hL6,hD0,hrun⟩ | ⟨he,hr⟩
  ·cases hfu:fulN th with
   | true =>
    rw [K1,if_pos hfu] at hrun
    rw [hfu,if_neg zB] at he5
    exact .inl ⟨he5,rfl,hL6,hD0,hrun⟩
   | false =>
    rw [K1,if_neg (by rw [hfu];simp)] at hrun
    rw [hfu,if_pos ⟨rfl,rfl⟩] at he5
    exact .inr ⟨by omega,by rw [he5];exact hrun.symm⟩
  ·rw [if_neg (fun q=>he q.2)] at he5
   exact .inr ⟨by omega,by rw [he5];exact hr⟩
 obtain ⟨ff,hff⟩:∃ ff,ff=fulN th:=⟨_,rfl⟩
 rw [←hff] at hFull cb hinv3
 clear he5 hinv
 have htk:th.take 19=th:=List.take_of_length_le zO
 have hfr:AV.free.freeL [.sl false none (th.map nA)]=true:=by simp only [AV.free,AV.free.freeL,Zaa,Bool.and_self]
 iterate 1 (first|refine zS ?_|exact zT)
 refine SWp.to (F:=mk 190 (30+k) [(0,.op 1000 0 0),(2,int (L:Int)),(3,int (D:Int)),(6,.own 4005 28 none 0 19)] [(1000,0,.row false (stR nb B most 0 out.length at0 e5)),(1001,0,.row (nl0 out.length) (out.map u8)),(4005,28,.row false (th.map nA))]) ?_ ?_
 ·repeat (first|refine zS ?_|exact zT)
  refine Zaz (boo ff) (.inr ⟨rfl,?_,?_⟩) ?_
  ·(first|exact yU (ja3 iR @hthl @htk)|refine yR (ja3 iR @hthl @htk) ?_)
  ·(first|exact yU (ja3 iR @hthl @htk)|refine yR (ja3 iR @hthl @htk) ?_)
   exact hFull
  repeat (first|refine zR BI3 ?_|exact zU BI3)
  refine Zae [(1000,0),(1001,0)] 7000 cb zB zB ?_ ?_ ?_
  iterate 2 (case _=>(first|exact yU BI0|refine yR BI0 ?_))
  (first|exact yU BI1|refine yR BI1 ?_)
  exact Zaj rfl (by simp only;omega) yT (yU BI3)
 rcases hinv3 with ⟨rfl,rfl,hL6,hD0,hrun⟩ | ⟨he,rfl⟩
 ·have hfu:fulN th=true:=hff.symm
  have hK:Zav th≤32768:=by simp only [fulN,decide_eq_true_eq] at hfu;omega
  have h15:∀ x∈th,x≤15:=fun x hx=>by have:=hth7 x hx;omega
  have cm:=ZjH false th h15 zO hK
  obtain ⟨em,hem⟩:∃ em,em=th.isEmpty:=⟨_,rfl⟩
  rw [←hem] at cm
  have hk19:k≤19:=zO
  have hadd:(L:Int)+(D:Int)=((L+D:Nat):Int):=zO
  obtain ⟨N,hN2⟩:∃ N,N=L+D:=⟨_,rfl⟩
  rw [←hN2] at hadd hrun
  repeat (first|refine zR BI3 ?_|exact zU BI3)
  refine Zfj 4005 28 (nl:=false) (cells:=th.map nA) [.sl false none (th.map nA)] _ yT Zaa ?_ hfr cm ?_
  ·(first|exact yU (ja4 fR iR @hthl @htk)|refine yR (ja4 fR iR @hthl @htk) ?_)
  repeat (first|refine zR BI5 ?_|exact zU BI5)
  refine SWp.adopt 9 none yT ?_
  refine SWp.loop (α:=Nat × List Nat × Nat × Nat × Nat × Nat) (fun x=>mk 190 x.2.2.2.2.2 [(0,.op 1000 0 0),(2,int (L:Int)),(3,int (D:Int)),(8,.op 8 (30+k) 0),(9,.own 9 x.2.2.2.2.1 none 0 x.2.1.length)] [(1000,0,.row false (stR nb B most 0 out.length x.2.2.1 x.2.2.2.1)),(1001,0,.row (nl0 out.length) (out.map u8)),(8,30+k,.row false [.sl false none (th.map nA),.sl em none ((Za2 th).map nA)]),(9,x.2.2.2.2.1,.row (nl0 x.2.1.length) (x.2.1.map nA))])
   (fun x=>x.2.2.2.2.2+1000*x.1≤400000+100∧x.2.1.length≤1000∧((x.2.2.2.1=0∧((lsT th N x.1 x.2.1).bnd (K2 most F L out)).run B x.2.2.1=r∧x.2.2.1≤8*b.length∧x.2.1.length≤N∧N-x.2.1.length<x.1∧∀ y∈x.2.1,y≤15)∨(x.2.2.2.1≠0∧r = .no x.2.2.2.1)))
   (fun x=>x.1+(if x.2.2.2.1=0 then 1 else 0)) (400,[],at0,0,31+k,32+k) ⟨by simp only;omega,Nat.zero_le _,.inl ⟨rfl,hrun,hat,Nat.zero_le _,by simp only [List.length_nil];omega,by simp⟩⟩ (Zaj rfl ?_ ?_ ?_) ?_
  ·simp only;omega
  ·(first|exact yT|refine yS ?_)
   try omega
  ·(first|exact yU (ja3 @stR.eq_1 iR @Zbh)|refine yR (ja3 @stR.eq_1 iR @Zbh) ?_)
   try omega
  clear hrun cb hFull
  rintro ⟨f,lens,at2,e,g,c⟩ ⟨hc,hl1000,hx⟩ -
  simp only at hc hl1000 hx
  rcases hx with ⟨rfl,hrun,hat2,hln,hfu2,hl15⟩ | ⟨he,rfl⟩
  ·by_cases clt:lens.length<N
   ·have dlt:decide ((lens.length:Int)<((N:Nat):Int))=true:=decide_eq_true zO
    obtain ⟨f,rfl⟩:∃ f',f=f'+1:=⟨f-1,by omega⟩
    rw [lsT,if_neg zO,Zal,Zal,Zvb] at hrun
    have hS:=Zlk nb B zO hB2 most at2 0 zO out false em th zO h15 hK
    obtain ⟨hs320,hpq,hqB,hq0,he10⟩:=Zpu (by omega:th.length≤320) (l:=th) (B:=B) (i:=at2) zO
    have hs19:(syS th B at2 0).1<19:=by
     have hsy:=Zjw (l:=th) (B:=B.drop at2) 15 0 0
     unfold syS
     rw [if_neg zB]
     split
     ·rename_i q;have:=(hsy q).1;simp only;omega
     ·simp only;omega
    have hs0:(syS th B at2 0).2.2≠0→(syS th B at2 0).1=0:=fun q=>by
     unfold syS at q ⊢
     rw [if_neg zB] at q ⊢
     split
     ·rename_i q2;rw [if_pos q2] at q;exact absurd rfl q
     ·rfl
    obtain ⟨⟨x,p1,e1⟩,hxs⟩:∃ s,s=syS th B at2 0:=⟨_,rfl⟩
    rw [←hxs] at hS hrun hs320 hpq hqB hq0 he10 hs19 hs0
    simp only at hS hrun hs320 hpq hqB hq0 he10 hs19 hs0
    clear hxs
    by_cases ce:e1=0
    ·subst ce
     rw [if_pos rfl] at hrun
     simp only [BR.bnd] at hrun
     by_cases c16:x=16∧lens=[]
     ·obtain ⟨rfl,rfl⟩:=c16
      rw [if_pos ⟨rfl,rfl⟩] at hrun
      simp only [BT.run] at hrun
      subst hrun
      have dlN:decide (((N:Nat):Int)<3)=false:=decide_eq_false zO
      have dl0:decide ((0:Int)<((N:Nat):Int))=true:=decide_eq_true zO
      have hb0:=Zbz nb B most p1 0 out true 3
      rw [if_pos ⟨rfl,rfl⟩] at hb0
      have hcn:=hNum p1 3 zO out 2 zO
      rw [ke zO] at hcn
      have hbd:=Zbz nb B most p1 3 out false 3
      rw [if_neg zB] at hbd
      have htm:=Zc7 0 3 zO
      have dl0':decide (0<N)=true:=decide_eq_true zO
      repeat (first|refine zR (ja5 @stR.eq_1 iR @dl0 @dl0' @hadd) ?_|exact zU (ja5 @stR.eq_1 iR @dl0 @dl0' @hadd))
      refine Zae [(1000,0),(1001,0)] 8000 hS zB zB ?_ ?_ ?_
      iterate 2 (case _=>(first|exact yU BI0|refine yR BI0 ?_))
      repeat (first|refine zR BI1 ?_|exact zU BI1)
      refine Zae [(1000,0),(1001,0)] 9000 hb0 zB zB ?_ ?_ ?_
      iterate 2 (case _=>(first|exact yU BI0|refine yR BI0 ?_))
      repeat (first|refine zR BI1 ?_|exact zU BI1)
      refine Zae [(1000,0),(1001,0)] 10000 hcn zB zB ?_ ?_ ?_
      iterate 2 (case _=>(first|exact yU BI0|refine yR BI0 ?_))
      repeat (first|refine zR (ja5 @stO.eq_1 @stR.eq_1 iR @hadd @dlN) ?_|exact zU (ja5 @stO.eq_1 @stR.eq_1 iR @hadd @dlN))
      refine Zae [(1000,0),(1001,0)] 11000 hbd zB zB ?_ ?_ ?_
      iterate 2 (case _=>(first|exact yU BI0|refine yR BI0 ?_))
      repeat (first|refine zR BI1 ?_|exact zU BI1)
      refine Zae [] 12000 htm zB zB ?_ ?_ ?_
      iterate 2 (case _=>(first|exact yT|refine yS ?_))
      repeat (first|refine zR (ja4 @stO.eq_1 @stR.eq_1 iR @Zbh) ?_|exact zU (ja4 @stO.eq_1 @stR.eq_1 iR @Zbh))
      try refine ⟨⟨by simp,by simp,by simp⟩,?_⟩
      refine At.of (f,[0,0,0],p1,3,c+14,c+15) ⟨by simp only;omega,by simp,.inr ⟨by simp,rfl⟩⟩ (by simp <;> omega) rfl rfl ?_ ?_ ?_
      ·simp only;omega
      ·(first|exact yT|refine yS ?_)
       try rfl
      ·(first|exact yU BI3|refine yR BI3 ?_)
       try first|exact ⟨rfl,rfl⟩ | rfl
     ·have hplus:=Zpt (B:=B) (n:=lsB x) (i:=p1) hqB
      have hfk:=fact (n:=lsB x) (i:=p1) (e:=0) (by unfold lsB;split <;> (try split) <;> (try split) <;> omega) zO
      have hpl:(Zfd (lsN x) (lsB x)).run B p1=if (nuS B (lsB x) p1 0).2.2=0 then .ok (lsN x+(nuS B (lsB x) p1 0).1) (nuS B (lsB x) p1 0).2.1 else .no (nuS B (lsB x) p1 0).2.2:=by
       rw [Zfd,Zal,hplus]
       split <;> rfl
      have hB7:lsB x≤7:=by unfold lsB;split <;> (try split) <;> (try split) <;> omega
      have hN3:1≤lsN x∧lsN x≤11:=by unfold lsN;split <;> (try split) <;> omega
      have hp7:2^lsB x≤128:=ZaR (n:=lsB x) (m:=7) hB7
      have hcn:=hNum p1 0 zO out (lsB x) zO
      have hy15:=ZHY (s:=x) (lens:=lens) hs19 c16 hl15
      obtain ⟨⟨v,p2,e2⟩,hv⟩:∃ s,s=nuS B (lsB x) p1 0:=⟨_,rfl⟩
      rw [←hv] at hpl hfk hcn
      simp only at hpl hfk hcn
      obtain ⟨n,hn⟩:∃ n,n=lsN x+v:=⟨_,rfl⟩
      have en:(lsN x:Int)+(v:Int)=(n:Int):=zO
      rw [←hn] at hpl
      have hn1:1≤n∧n≤139:=zO
      obtain ⟨y,hy⟩:∃ y,y=lsV x lens:=⟨_,rfl⟩
      have hbd:=Zbz nb B most p2 e2 out (decide (N<lens.length+n)) 3
      obtain ⟨e3,he3⟩:∃ e3,e3=if N<lens.length+n∧e2=0 then 3 else e2:=⟨_,rfl⟩
      have hee:(if decide (N<lens.length+n)=true∧e2=0 then 3 else e2)=e3:=by rw [he3];simp only [decide_eq_true_eq]
      rw [hee] at hbd
      have hst:=ZGk c16 hy hpl he3 hrun
      have hdd:decide (((N:Nat):Int)-(lens.length:Int)<(n:Int))=decide (N<lens.length+n):=decide_eq_decide.2 zO
      obtain ⟨bd,hbdd⟩:∃ bd,bd=decide (N<lens.length+n):=⟨_,rfl⟩
      rw [←hbdd] at hbd hdd
      have htm:=Zc7 y n zO
      have hX15:=ZGl (lens:=lens) (n:=n) (y:=y) (by rw [hy];exact hy15) hl15
      have hn0:nl0 n=false:=Zca zO
      have hXl:(List.replicate n y).length=n:=List.length_replicate
      have hXe:((List.replicate n y).map nA).isEmpty=false:=by
       obtain ⟨m,rfl⟩:∃ m,n=m+1:=⟨n-1,by omega⟩
       rfl
      have hXt:((List.replicate n y).map nA).take n=(List.replicate n y).map nA:=List.take_of_length_le zB
      have hXt2:(List.replicate n y).take n=List.replicate n y:=List.take_of_length_le zB
      obtain ⟨X,hX⟩:∃ X,X=List.replicate n y:=⟨_,rfl⟩
      rw [hn0] at htm
      rw [←hX] at htm hX15 hXl hXe hXt hXt2 hst
      have hla:(lens++X).length=lens.length+n:=by rw [List.length_append,hXl]
      have hn1':nl0 (lens.length+n)=false:=ZuM zO
      clear hrun he3 hee hbdd hpl hplus
      have hfin:((e3=0∧((lsT th N f (lens++X)).bnd (K2 most F L out)).run B p2=r∧p2≤8*b.length∧(lens++X).length≤N∧N-(lens++X).length<f∧∀ y∈lens++X,y≤15)∨(e3≠0∧r = .no e3)):=by
       rcases hst with ⟨q1,q2,q3⟩ | q
       ·exact .inl ⟨q1,q2,hfk.2,by omega,by omega,hX15⟩
       ·exact .inr q
      have hmu:f+(if e3=0 then 1 else 0)<f+1+(if (0:Nat)=0 then 1 else 0):=by
       split <;> simp <;> omega
      by_cases e16:x=16
      ·subst e16
       have hl0:0<lens.length:=List.length_pos_iff.2 fun h=>c16 ⟨rfl,h⟩
       have dl:decide ((lens.length:Int)=0)=false:=decide_eq_false zO
       have dl2:decide ((0:Int)<(lens.length:Int))=true:=decide_eq_true zO
       have hb0:=Zbz nb B most p1 0 out false 3
       rw [if_neg zB] at hb0
       rw [show lsB 16=2 from rfl] at hcn
       rw [show lsN 16=3 from rfl] at en
       have en:(3:Int)+(v:Int)=(n:Int):=en
       obtain ⟨z,hz⟩:∃ z,z=lens.length-1:=⟨_,rfl⟩
       have ez:(lens.length:Int)-1=(z:Int):=zO
       have hyz:lens.getD z 0=y:=by rw [hy,hz];rfl
       repeat (first|refine zR (ja4 @stR.eq_1 iR @dlt @hadd) ?_|exact zU (ja4 @stR.eq_1 iR @dlt @hadd))
       refine Zae [(1000,0),(1001,0)] 8000 hS zB zB ?_ ?_ ?_
       iterate 2 (case _=>(first|exact yU BI0|refine yR BI0 ?_))
       repeat (first|refine zR (ja4 @stO.eq_1 @stR.eq_1 iR @dl) ?_|exact zU (ja4 @stO.eq_1 @stR.eq_1 iR @dl))
       refine Zae [(1000,0),(1001,0)] 9000 hb0 zB zB ?_ ?_ ?_
       iterate 2 (case _=>(first|exact yU BI0|refine yR BI0 ?_))
       repeat (first|refine zR (ja6 @stO.eq_1 @stR.eq_1 iR @dl2 @ez @hyz) ?_|exact zU (ja6 @stO.eq_1 @stR.eq_1 iR @dl2 @ez @hyz))
       refine Zae [(1000,0),(1001,0)] 10000 hcn zB zB ?_ ?_ ?_
       iterate 2 (case _=>(first|exact yU BI0|refine yR BI0 ?_))
       repeat (first|refine zR (ja6 @stO.eq_1 @stR.eq_1 iR @hadd @en @hdd) ?_|exact zU (ja6 @stO.eq_1 @stR.eq_1 iR @hadd @en @hdd))
       refine Zae [(1000,0),(1001,0)] 11000 hbd zB zB ?_ ?_ ?_
       iterate 2 (case _=>(first|exact yU BI0|refine yR BI0 ?_))
       repeat (first|refine zR BI1 ?_|exact zU BI1)
       refine Zae [] 12000 htm zB zB ?_ ?_ ?_
       iterate 2 (case _=>(first|exact yT|refine yS ?_))
       repeat (first|refine zR (ja8 @stO.eq_1 @stR.eq_1 iR @hXl @hXe @hXt @hXt2 @Bool.and_false) ?_|exact zU (ja8 @stO.eq_1 @stR.eq_1 iR @hXl @hXe @hXt @hXt2 @Bool.and_false))
       refine At.of (f,lens++X,p2,e3,c+n+11,c+n+11+1) ⟨by simp only;omega,by simp only;omega,hfin⟩ hmu rfl rfl ?_ ?_ ?_
       ·simp only;omega
       ·(first|exact yU @hXl|refine yR @hXl ?_)
        try omega
       ·(first|exact yU (ja4 @stR.eq_1 iR @hXl @hn1')|refine yR (ja4 @stR.eq_1 iR @hXl @hn1') ?_)
        try omega
      have d16:decide ((x:Int)=16)=false:=decide_eq_false zO
      by_cases e17:x=17
      ·subst e17
       rw [show lsB 17=3 from rfl] at hcn
       rw [show lsN 17=3 from rfl] at en
       have en:(3:Int)+(v:Int)=(n:Int):=en
       obtain rfl:y=0:=hy
       repeat (first|refine zR (ja4 @stR.eq_1 iR @dlt @hadd) ?_|exact zU (ja4 @stR.eq_1 iR @dlt @hadd))
       refine Zae [(1000,0),(1001,0)] 8000 hS zB zB ?_ ?_ ?_
       iterate 2 (case _=>(first|exact yU BI0|refine yR BI0 ?_))
       repeat (first|refine zR BI1 ?_|exact zU BI1)
       refine Zae [(1000,0),(1001,0)] 10000 hcn zB zB ?_ ?_ ?_
       iterate 2 (case _=>(first|exact yU BI0|refine yR BI0 ?_))
       repeat (first|refine zR (ja6 @stO.eq_1 @stR.eq_1 iR @hadd @en @hdd) ?_|exact zU (ja6 @stO.eq_1 @stR.eq_1 iR @hadd @en @hdd))
       refine Zae [(1000,0),(1001,0)] 11000 hbd zB zB ?_ ?_ ?_
       iterate 2 (case _=>(first|exact yU BI0|refine yR BI0 ?_))
       repeat (first|refine zR BI1 ?_|exact zU BI1)
       refine Zae [] 12000 htm zB zB ?_ ?_ ?_
       iterate 2 (case _=>(first|exact yT|refine yS ?_))
       repeat (first|refine zR (ja8 @stO.eq_1 @stR.eq_1 iR @hXl @hXe @hXt @hXt2 @Bool.and_false) ?_|exact zU (ja8 @stO.eq_1 @stR.eq_1 iR @hXl @hXe @hXt @hXt2 @Bool.and_false))
       refine At.of (f,lens++X,p2,e3,c+n+10,c+n+10+1) ⟨by simp only;omega,by simp only;omega,hfin⟩ hmu rfl rfl ?_ ?_ ?_
       ·simp only;omega
       ·(first|exact yU @hXl|refine yR @hXl ?_)
        try omega
       ·(first|exact yU (ja4 @stR.eq_1 iR @hXl @hn1')|refine yR (ja4 @stR.eq_1 iR @hXl @hn1') ?_)
        try omega
      have d17:decide ((x:Int)=17)=false:=decide_eq_false zO
      by_cases e18:x=18
      ·subst e18
       rw [show lsB 18=7 from rfl] at hcn
       rw [show lsN 18=11 from rfl] at en
       have en:(11:Int)+(v:Int)=(n:Int):=en
       obtain rfl:y=0:=hy
       repeat (first|refine zR (ja4 @stR.eq_1 iR @dlt @hadd) ?_|exact zU (ja4 @stR.eq_1 iR @dlt @hadd))
       refine Zae [(1000,0),(1001,0)] 8000 hS zB zB ?_ ?_ ?_
       iterate 2 (case _=>(first|exact yU BI0|refine yR BI0 ?_))
       repeat (first|refine zR BI1 ?_|exact zU BI1)
       refine Zae [(1000,0),(1001,0)] 10000 hcn zB zB ?_ ?_ ?_
       iterate 2 (case _=>(first|exact yU BI0|refine yR BI0 ?_))
       repeat (first|refine zR (ja6 @stO.eq_1 @stR.eq_1 iR @hadd @en @hdd) ?_|exact zU (ja6 @stO.eq_1 @stR.eq_1 iR @hadd @en @hdd))
       refine Zae [(1000,0),(1001,0)] 11000 hbd zB zB ?_ ?_ ?_
       iterate 2 (case _=>(first|exact yU BI0|refine yR BI0 ?_))
       repeat (first|refine zR BI1 ?_|exact zU BI1)
       refine Zae [] 12000 htm zB zB ?_ ?_ ?_
       iterate 2 (case _=>(first|exact yT|refine yS ?_))
       repeat (first|refine zR (ja8 @stO.eq_1 @stR.eq_1 iR @hXl @hXe @hXt @hXt2 @Bool.and_false) ?_|exact zU (ja8 @stO.eq_1 @stR.eq_1 iR @hXl @hXe @hXt @hXt2 @Bool.and_false))
       refine At.of (f,lens++X,p2,e3,c+n+10,c+n+10+1) ⟨by simp only;omega,by simp only;omega,hfin⟩ hmu rfl rfl ?_ ?_ ?_
       ·simp only;omega
       ·(first|exact yU @hXl|refine yR @hXl ?_)
        try omega
       ·(first|exact yU (ja4 @stR.eq_1 iR @hXl @hn1')|refine yR (ja4 @stR.eq_1 iR @hXl @hn1') ?_)
        try omega
      have d18:decide ((x:Int)=18)=false:=decide_eq_false zO
      obtain rfl:y=x:=by rw [hy,lsV,if_neg e16,if_neg zO]
      have hb0:lsB y=0:=by rw [lsB,if_neg e16,if_neg e17,if_neg e18]
      have hN0:lsN y=1:=by rw [lsN,if_neg zO,if_neg e18]
      rw [hb0,nuS,if_neg zB,if_pos zO] at hv
      simp only [List.take_zero,Zeq,Nat.add_zero,Prod.mk.injEq] at hv
      obtain ⟨rfl,rfl,rfl⟩:=hv
      obtain rfl:n=1:=zO
      have hdd:decide (((N:Nat):Int)-(lens.length:Int)<1)=bd:=hdd
      repeat (first|refine zR (ja4 @stR.eq_1 iR @dlt @hadd) ?_|exact zU (ja4 @stR.eq_1 iR @dlt @hadd))
      refine Zae [(1000,0),(1001,0)] 8000 hS zB zB ?_ ?_ ?_
      iterate 2 (case _=>(first|exact yU BI0|refine yR BI0 ?_))
      repeat (first|refine zR (ja8 @stO.eq_1 @stR.eq_1 iR @d16 @d17 @d18 @hadd @hdd) ?_|exact zU (ja8 @stO.eq_1 @stR.eq_1 iR @d16 @d17 @d18 @hadd @hdd))
      refine Zae [(1000,0),(1001,0)] 11000 hbd zB zB ?_ ?_ ?_
      iterate 2 (case _=>(first|exact yU BI0|refine yR BI0 ?_))
      repeat (first|refine zR BI1 ?_|exact zU BI1)
      refine Zae [] 12000 htm zB zB ?_ ?_ ?_
      iterate 2 (case _=>(first|exact yT|refine yS ?_))
      repeat (first|refine zR (ja8 @stO.eq_1 @stR.eq_1 iR @hXl @hXe @hXt @hXt2 @Bool.and_false) ?_|exact zU (ja8 @stO.eq_1 @stR.eq_1 iR @hXl @hXe @hXt @hXt2 @Bool.and_false))
      refine At.of (f,lens++X,p2,e3,c+10,c+10+1) ⟨by simp only;omega,by simp only;omega,hfin⟩ hmu rfl rfl ?_ ?_ ?_
      ·simp only;omega
      iterate 2 (case _=>(first|exact yU (ja4 @hXl @stR.eq_1 iR @hn1')|refine yR (ja4 @hXl @stR.eq_1 iR @hn1') ?_))
    ·rw [if_neg ce] at hrun
     simp only [BR.bnd] at hrun
     subst hrun
     obtain rfl:x=0:=hs0 ce
     have de:decide ((e1:Int)=0)=false:=decide_eq_false zO
     have hbd:=Zbz nb B most p1 e1 out false 3
     rw [if_neg zB] at hbd
     have hdd:decide (((N:Nat):Int)-(lens.length:Int)<1)=false:=decide_eq_false zO
     have htm:=Zc7 0 1 zO
     have hn1':nl0 (lens.length+1)=false:=ZuM zO
     repeat (first|refine zR (ja4 @stR.eq_1 iR @dlt @hadd) ?_|exact zU (ja4 @stR.eq_1 iR @dlt @hadd))
     refine Zae [(1000,0),(1001,0)] 8000 hS zB zB ?_ ?_ ?_
     iterate 2 (case _=>(first|exact yU BI0|refine yR BI0 ?_))
     repeat (first|refine zR (ja5 @stO.eq_1 @stR.eq_1 iR @hadd @hdd) ?_|exact zU (ja5 @stO.eq_1 @stR.eq_1 iR @hadd @hdd))
     refine Zae [(1000,0),(1001,0)] 11000 hbd zB zB ?_ ?_ ?_
     iterate 2 (case _=>(first|exact yU BI0|refine yR BI0 ?_))
     repeat (first|refine zR BI1 ?_|exact zU BI1)
     refine Zae [] 12000 htm zB zB ?_ ?_ ?_
     iterate 2 (case _=>(first|exact yT|refine yS ?_))
     repeat (first|refine zR (ja4 @stO.eq_1 @stR.eq_1 iR @Zbi) ?_|exact zU (ja4 @stO.eq_1 @stR.eq_1 iR @Zbi))
     try refine ⟨⟨by simp,by simp <;> omega,by simp <;> omega⟩,?_⟩
     refine At.of (f,lens++[0],p1,e1,c+10,c+11) ⟨by simp only;omega,by simp only [List.length_append,List.length_singleton];omega,.inr ⟨ce,rfl⟩⟩ (by simp only;rw [if_neg ce];omega) rfl rfl ?_ ?_ ?_
     ·simp only;omega
     ·(first|exact yT|refine yS ?_)
      try rfl
     ·(first|exact yU (ja3 @stR.eq_1 iR @hn1')|refine yR (ja3 @stR.eq_1 iR @hn1') ?_)
      first|exact ⟨Bool.and_false _,rfl⟩ | rfl
   ·have dlt:decide ((lens.length:Int)<((N:Nat):Int))=false:=decide_eq_false zO
    obtain rfl:lens.length=N:=zO
    rw [show lsT th lens.length f lens = .ret lens by
     obtain ⟨f,rfl⟩:∃ f',f=f'+1:=⟨f-1,by omega⟩
     rw [lsT,if_pos (Nat.le_refl _)]] at hrun
    simp only [BT.bnd] at hrun
    have hn1:nl0 lens.length=false:=Zca zO
    have htl:lens.take lens.length=lens:=List.take_length
    refine SWp.frzo 9 g (nl:=false) (cells:=lens.map nA) (yU @hn1) Zaa ?_
    refine SWp.le (Zaj (N:=190) (gc:=c) (l:=[(0,.op 1000 0 0),(2,int (L:Int)),(3,int (D:Int)),(9,.sl false none (lens.map nA))]) (h:=[(1000,0,.row false (stR nb B most 0 out.length at2 0)),(1001,0,.row (nl0 out.length) (out.map u8))]) rfl ?_ ?_ ?_) ?_
    ·exact Nat.le_refl _
    iterate 2 (case _=>(first|exact yU (ja5 fR iR @htl @stR.eq_1 @false_and)|refine yR (ja5 fR iR @htl @stR.eq_1 @false_and) ?_))
    repeat (first|refine zR (ja4 @stR.eq_1 iR @dlt @hadd) ?_|exact zU (ja4 @stR.eq_1 iR @dlt @hadd))
    obtain ⟨ds,hds⟩:∃ ds,ds=lens.drop L:=⟨_,rfl⟩
    have hdl:ds.length=D:=by rw [hds,List.length_drop];omega
    have hdg:∀ j,j<D→lens.getD (L+j) 0=ds.getD j 0:=fun j hj=>by rw [hds];simp [List.getD]
    have hd15:∀ x∈ds,x≤15:=fun x hx=>hl15 x (by rw [hds] at hx;exact List.mem_of_mem_drop hx)
    refine SWp.loop (α:=Nat) (fun m=>mk 190 c [(0,.op 1000 0 0),(2,int (L:Int)),(3,int (D:Int)),(9,.sl false none (lens.map nA)),(13,int (usd (ds.take (m-L)):Nat)),(14,int (mst (ds.take (m-L)):Nat)),(15,int (m:Int))] [(1000,0,.row false (stR nb B most 0 out.length at2 0)),(1001,0,.row (nl0 out.length) (out.map u8))])
     (fun m=>L≤m∧m≤lens.length) (fun m=>lens.length-m) L ⟨Nat.le_refl _,by omega⟩ (Zaj rfl ?_ ?_ ?_) ?_
    ·exact Nat.le_refl _
    iterate 2 (case _=>(first|exact yU BI12|refine yR BI12 ?_))
    rintro m ⟨hm1,hm2⟩ -
    obtain ⟨hu1,hu2,hu3,hu4⟩:=Ztw _ (ds.take (m-L)) rfl
    have htl2:(ds.take (m-L)).length≤1000:=by rw [List.length_take];omega
    have hsum:=Zrs (l:=ds.take (m-L)) fun x hx=>hd15 x (List.mem_of_mem_take hx)
    repeat (first|refine zR (ja3 @stR.eq_1 iR @hadd) ?_|exact zU (ja3 @stR.eq_1 iR @hadd))
    refine SWp.cond rfl (fun h=>?_) (fun h=>?_)
    ·simp only [decide_eq_true_eq] at h
     have hmN:m<lens.length:=zO
     have hsn:=ZgS (l:=ds) (k:=m-L) (d:=0) zO
     have hg:=hdg (m-L) zO
     rw [show L+(m-L)=m by omega] at hg
     rw [show m-L+1=m+1-L by omega] at hsn
     obtain ⟨x,hx⟩:∃ x,x=lens.getD m 0:=⟨_,rfl⟩
     rw [←hx] at hg
     rw [←hg] at hsn
     have hus:=Zwp (l:=ds.take (m-L)) (x:=x)
     have hms:=Zwq (l:=ds.take (m-L)) (x:=x)
     rw [←hsn] at hus hms
     obtain ⟨U0,hU0⟩:∃ U0,U0=usd (ds.take (m-L)):=⟨_,rfl⟩
     obtain ⟨M0,hM0⟩:∃ M0,M0=mst (ds.take (m-L)):=⟨_,rfl⟩
     rw [←hU0] at hus hu1 hu2
     rw [←hM0] at hms hu3
     by_cases k1:0<x
     ·have d1:decide ((0:Int)<(x:Int))=true:=decide_eq_true zO
      rw [if_pos k1] at hus
      by_cases k2:M0<x
      ·have d2:decide ((M0:Int)<(x:Int))=true:=decide_eq_true zO
       rw [if_pos k2] at hms
       repeat (first|refine zR (ja7 @stR.eq_1 iR hx.symm hU0.symm hM0.symm @d1 @d2) ?_|exact zU (ja7 @stR.eq_1 iR hx.symm hU0.symm hM0.symm @d1 @d2))
       refine At.of (m+1) ⟨by omega,by omega⟩ zO rfl rfl (Nat.le_refl _) ?_ ?_
       iterate 2 (case _=>(first|exact yU (ja3 @hus @hms @stR.eq_1)|refine yR (ja3 @hus @hms @stR.eq_1) ?_))
      ·have d2:decide ((M0:Int)<(x:Int))=false:=decide_eq_false zO
       rw [if_neg k2] at hms
       repeat (first|refine zR (ja7 @stR.eq_1 iR hx.symm hU0.symm hM0.symm @d1 @d2) ?_|exact zU (ja7 @stR.eq_1 iR hx.symm hU0.symm hM0.symm @d1 @d2))
       refine At.of (m+1) ⟨by omega,by omega⟩ zO rfl rfl (Nat.le_refl _) ?_ ?_
       iterate 2 (case _=>(first|exact yU (ja3 @hus @hms @stR.eq_1)|refine yR (ja3 @hus @hms @stR.eq_1) ?_))
     ·have d1:decide ((0:Int)<(x:Int))=false:=decide_eq_false zO
      have d2:decide ((M0:Int)<(x:Int))=false:=decide_eq_false zO
      rw [if_neg k1] at hus
      rw [if_neg zO] at hms
      repeat (first|refine zR (ja7 @stR.eq_1 iR hx.symm hU0.symm hM0.symm @d1 @d2) ?_|exact zU (ja7 @stR.eq_1 iR hx.symm hU0.symm hM0.symm @d1 @d2))
      refine At.of (m+1) ⟨by omega,by omega⟩ zO rfl rfl (Nat.le_refl _) ?_ ?_
      iterate 2 (case _=>(first|exact yU (ja3 @hus @hms @stR.eq_1)|refine yR (ja3 @hus @hms @stR.eq_1) ?_))
    simp only [decide_eq_false_iff_not] at h
    obtain rfl:m=lens.length:=zO
    rw [show ds.take (lens.length-L)=ds from List.take_of_length_le zO] at hu1 hu2 hu3 hsum ⊢
    iterate 1 (first|refine zS ?_|exact zT)
    have hfd:=ZGj (d:=ds)
    obtain ⟨U0,hU0⟩:∃ U0,U0=usd ds:=⟨_,rfl⟩
    obtain ⟨M0,hM0⟩:∃ M0,M0=mst ds:=⟨_,rfl⟩
    rw [←hU0,←hM0] at hfd
    rw [←hU0] at hu1 hu2 ⊢
    rw [←hM0] at hu3 ⊢
    have hF1:=Znb false (lens.take L) (fun x hx=>hl15 x (List.mem_of_mem_take hx)) (by rw [List.length_take];omega)
    have hF2:=Znb false ds hd15 zO
    obtain ⟨tk,htk9⟩:∃ tk,tk=lens.take L:=⟨_,rfl⟩
    have htkl:tk.length=L:=by rw [htk9,List.length_take];omega
    have ht15:∀ x∈tk,x≤15:=fun x hx=>hl15 x (by rw [htk9] at hx;exact List.mem_of_mem_take hx)
    have h256:lens.getD 256 0=tk.getD 256 0:=by rw [htk9];simp only [List.getD];rw [List.getElem?_take,if_pos zO]
    rw [K2,←htk9,←hds] at hrun
    rw [←htk9] at hF1
    have hco:ZuJ tk ds=(decide (tk.getD 256 0≠0)&&fulN tk&&(!(decide (1<U0) || decide (1<M0)) || fulN ds)):=by rw [ZuJ,ZDb,hfd]
    have hLl:(L:Int)≤((lens.length:Nat):Int):=zO
    obtain ⟨x6,hx6⟩:∃ x6,x6=tk.getD 256 0:=⟨_,rfl⟩
    rw [←hx6] at h256 hco
    have hfrt:AV.free.freeL [.sl false none (tk.map nA)]=true:=by simp only [AV.free,AV.free.freeL,Zaa,Bool.and_self]
    have hfrd:AV.free.freeL [.sl false none (ds.map nA)]=true:=by simp only [AV.free,AV.free.freeL,Zaa,Bool.and_self]
    have qU:decide ((1:Int)<(U0:Int))=decide (1<U0):=decide_eq_decide.2 zO
    have qM:decide ((1:Int)<(M0:Int))=decide (1<M0):=decide_eq_decide.2 zO
    cases hcN:ZuJ tk ds with
    | false =>
     rw [if_neg (by rw [hcN];simp)] at hrun
     simp only [BT.run] at hrun
     subst hrun
     refine SWp.le (Zaj (N:=190) (gc:=400100) (l:=[(0,.op 1000 0 0),(2,int (L:Int)),(3,int (D:Int)),(9,.sl false none (lens.map nA)),(13,int (U0:Int)),(14,int (M0:Int))]) (h:=[(1000,0,.row false (stR nb B most 0 out.length at2 0))]) rfl ?_ ?_ ?_) ?_
     ·show c≤400100;omega
     iterate 2 (case _=>(first|exact yU BI3|refine yR BI3 ?_))
     refine SWp.blur 1000 0 (nl:=false) (cells:=(stR nb B most 0 out.length at2 0)) (jkR 0) yT (by simp only [stR,jkR,ZrS];simp) ?_
     refine SWp.le (Zaj (N:=190) (gc:=400100) (l:=[(0,.op 1000 0 0),(2,int (L:Int)),(3,int (D:Int)),(9,.sl false none (lens.map nA)),(13,int (U0:Int)),(14,int (M0:Int))]) (h:=[(1000,0,.row false (jkR 0))]) rfl ?_ ?_ ?_) ?_
     ·exact Nat.le_refl _
     iterate 2 (case _=>(first|exact yT|refine yS ?_))
     by_cases k1:x6=0
     ·have d1:decide ((x6:Int)=0)=true:=decide_eq_true zO
      repeat (first|refine zR (ja5 @jkR.eq_1 (ja2 @Zcy.eq_1 @Zcy.eq_2) iR @h256 @d1) ?_|exact zU (ja5 @jkR.eq_1 (ja2 @Zcy.eq_1 @Zcy.eq_2) iR @h256 @d1))
      all_goals omega
     ·have d1:decide ((x6:Int)=0)=false:=decide_eq_false zO
      rw [decide_eq_true (by simpa using k1),Bool.true_and] at hco
      cases k2:fulN tk with
      | false =>
       rw [k2] at hF1
       repeat (first|refine zR (ja6 @jkR.eq_1 (ja2 @Zcy.eq_1 @Zcy.eq_2) iR @h256 @d1 htk9.symm) ?_|exact zU (ja6 @jkR.eq_1 (ja2 @Zcy.eq_1 @Zcy.eq_2) iR @h256 @d1 htk9.symm))
       refine Zaz _ (.inl ⟨hfrt,hF1⟩) ?_
       repeat (first|refine zR BI7 ?_|exact zU BI7)
       all_goals omega
      | true =>
       rw [k2] at hF1
       rw [k2,Bool.true_and,hcN] at hco
       cases k3:fulN ds with
       | true=>rw [k3,Bool.or_true] at hco;cases hco
       | false =>
        rw [k3] at hF2
        rw [k3,Bool.or_false] at hco
        repeat (first|refine zR (ja6 @jkR.eq_1 (ja2 @Zcy.eq_1 @Zcy.eq_2) iR @h256 @d1 htk9.symm) ?_|exact zU (ja6 @jkR.eq_1 (ja2 @Zcy.eq_1 @Zcy.eq_2) iR @h256 @d1 htk9.symm))
        refine Zaz _ (.inl ⟨hfrt,hF1⟩) ?_
        repeat (first|refine zR (ja4 @jkR.eq_1 (ja2 @Zcy.eq_1 @Zcy.eq_2) iR hds.symm) ?_|exact zU (ja4 @jkR.eq_1 (ja2 @Zcy.eq_1 @Zcy.eq_2) iR hds.symm))
        refine Zaz _ (.inl ⟨hfrd,hF2⟩) ?_
        by_cases k4:1<U0
        ·rw [decide_eq_true k4] at qU
         repeat (first|refine zR (ja4 @jkR.eq_1 (ja2 @Zcy.eq_1 @Zcy.eq_2) iR @qU) ?_|exact zU (ja4 @jkR.eq_1 (ja2 @Zcy.eq_1 @Zcy.eq_2) iR @qU))
         all_goals omega
        ·rw [decide_eq_false k4] at qU
         have k5:1<M0:=by
          by_cases q:1<M0
          ·exact q
          ·rw [decide_eq_false k4,decide_eq_false q] at hco;cases hco
         rw [decide_eq_true k5] at qM
         repeat (first|refine zR (ja5 @jkR.eq_1 (ja2 @Zcy.eq_1 @Zcy.eq_2) iR @qU @qM) ?_|exact zU (ja5 @jkR.eq_1 (ja2 @Zcy.eq_1 @Zcy.eq_2) iR @qU @qM))
         all_goals omega
    | true =>
     rw [if_pos hcN] at hrun
     obtain ⟨hc1,hc2,hc3⟩:=ZAf hcN
     rw [hcN] at hco
     have hco:=hco.symm
     simp only [Bool.and_eq_true,decide_eq_true_eq] at hco
     obtain ⟨⟨k1,k2⟩,k3⟩:=hco
     have d1:decide ((x6:Int)=0)=false:=decide_eq_false zO
     rw [k2] at hF1
     refine SWp.to (F:=mk 190 499997 [(0,.op 1000 0 0),(2,int (L:Int)),(3,int (D:Int)),(9,.sl false none (lens.map nA))] [(1000,0,.row false (stR nb B most 0 out.length at2 0)),(1001,0,.row (nl0 out.length) (out.map u8))]) ?_ ?_
     ·cases k4:fulN ds with
      | true =>
       rw [k4] at hF2
       repeat (first|refine zR (ja5 @stR.eq_1 iR @h256 @d1 htk9.symm) ?_|exact zU (ja5 @stR.eq_1 iR @h256 @d1 htk9.symm))
       refine Zaz _ (.inl ⟨hfrt,hF1⟩) ?_
       repeat (first|refine zR (ja3 @stR.eq_1 iR hds.symm) ?_|exact zU (ja3 @stR.eq_1 iR hds.symm))
       refine Zaz _ (.inl ⟨hfrd,hF2⟩) ?_
       repeat (first|refine zR BI3 ?_|exact zU BI3)
       refine SWp.skip ?_
       exact Zaj rfl (by simp only;omega) yT (yU BI3)
      | false =>
       rw [k4] at hF2
       rw [k4,Bool.or_false] at k3
       simp only [Bool.not_eq_true',Bool.or_eq_false_iff] at k3
       rw [k3.1] at qU
       rw [k3.2] at qM
       repeat (first|refine zR (ja5 @stR.eq_1 iR @h256 @d1 htk9.symm) ?_|exact zU (ja5 @stR.eq_1 iR @h256 @d1 htk9.symm))
       refine Zaz _ (.inl ⟨hfrt,hF1⟩) ?_
       repeat (first|refine zR (ja3 @stR.eq_1 iR hds.symm) ?_|exact zU (ja3 @stR.eq_1 iR hds.symm))
       refine Zaz _ (.inl ⟨hfrd,hF2⟩) ?_
       repeat (first|refine zR (ja4 @stR.eq_1 iR @qU @qM) ?_|exact zU (ja4 @stR.eq_1 iR @qU @qM))
       refine SWp.skip ?_
       exact Zaj rfl (by simp only;omega) yT (yU BI3)
     ·have m1:=ZjH false tk ht15 zO hc2
      have m2:=ZjH false ds hd15 zO hc3
      have hCo:=ZqL nb B zO hB2 most hm at2 zO out ho false tk.isEmpty tk zO ht15 hc2 false ds.isEmpty ds zO hd15 hc3 F zO r hrun
      obtain ⟨em1,hem1⟩:∃ em,em=tk.isEmpty:=⟨_,rfl⟩
      obtain ⟨em2,hem2⟩:∃ em,em=ds.isEmpty:=⟨_,rfl⟩
      rw [←hem1] at m1 hCo
      rw [←hem2] at m2 hCo
      repeat (first|refine zR (ja3 @stR.eq_1 iR htk9.symm) ?_|exact zU (ja3 @stR.eq_1 iR htk9.symm))
      refine Zaz _ (.inl ⟨hfrt,m1⟩) ?_
      repeat (first|refine zR (ja3 @cdG.eq_1 iR hds.symm) ?_|exact zU (ja3 @cdG.eq_1 iR hds.symm))
      refine Zaz _ (.inl ⟨hfrd,m2⟩) ?_
      repeat (first|refine zR BI5 ?_|exact zU BI5)
      refine Zae [(1000,0),(1001,0)] 20000 hCo zB zB ?_ ?_ ?_
      iterate 2 (case _=>(first|exact yU BI0|refine yR BI0 ?_))
      cases r with
      | ok o j =>
       repeat (first|refine zR BI10 ?_|exact zU BI10)
       exact ⟨⟨by rw [show 499997+(1000*F+2+1)=1000*F+500000 by omega],by omega⟩,by omega⟩
      | no e =>
       repeat (first|refine zR (ja3 (ja2 @Zcy.eq_1 @Zcy.eq_2) @jkR.eq_1 iR) ?_|exact zU (ja3 (ja2 @Zcy.eq_1 @Zcy.eq_2) @jkR.eq_1 iR))
       all_goals omega
  ·have de:decide ((e:Int)=0)=false:=decide_eq_false zO
   refine SWp.le (Zaj (N:=190) (gc:=400100) (l:=[(0,.op 1000 0 0),(2,int (L:Int)),(3,int (D:Int)),(9,.own 9 g none 0 lens.length)]) (h:=[(1000,0,.row false (stR nb B most 0 out.length at2 e)),(9,g,.row (nl0 lens.length) (lens.map nA))]) rfl ?_ ?_ ?_) ?_
   ·show c≤400100;omega
   iterate 2 (case _=>(first|exact yU BI3|refine yR BI3 ?_))
   refine SWp.blur 1000 0 (nl:=false) (cells:=(stR nb B most 0 out.length at2 e)) (jkR e) yT (by simp only [stR,jkR,ZrS];simp) ?_
   refine SWp.le (Zaj (N:=190) (gc:=400100) (l:=[(0,.op 1000 0 0),(2,int (L:Int)),(3,int (D:Int)),(9,.own 9 g none 0 lens.length)]) (h:=[(1000,0,.row false (jkR e)),(9,g,.row (nl0 lens.length) (lens.map nA))]) rfl ?_ ?_ ?_) ?_
   ·exact Nat.le_refl _
   iterate 2 (case _=>(first|exact yT|refine yS ?_))
   by_cases clt:(lens.length:Int)<((N:Nat):Int)
   ·have dlt:=decide_eq_true clt
    repeat (first|refine zR (ja6 @jkR.eq_1 (ja2 @Zcy.eq_1 @Zcy.eq_2) iR @de @dlt @hadd) ?_|exact zU (ja6 @jkR.eq_1 (ja2 @Zcy.eq_1 @Zcy.eq_2) iR @de @dlt @hadd))
    all_goals omega
   ·have dlt:=decide_eq_false clt
    repeat (first|refine zR (ja6 @jkR.eq_1 (ja2 @Zcy.eq_1 @Zcy.eq_2) iR @de @dlt @hadd) ?_|exact zU (ja6 @jkR.eq_1 (ja2 @Zcy.eq_1 @Zcy.eq_2) iR @de @dlt @hadd))
    all_goals omega
 ·have de:decide ((e5:Int)=0)=false:=decide_eq_false zO
  refine SWp.le (Zaj (N:=190) (gc:=100) (l:=[(0,.op 1000 0 0)]) (h:=[(1000,0,.row false (stR nb B most 0 out.length at0 e5))]) rfl ?_ ?_ ?_) ?_
  ·show 30+k≤100;omega
  iterate 2 (case _=>(first|exact yU BI3|refine yR BI3 ?_))
  refine SWp.blur 1000 0 (nl:=false) (cells:=(stR nb B most 0 out.length at0 e5)) (jkR e5) yT (by simp only [stR,jkR,ZrS];simp) ?_
  refine SWp.le (Zaj (N:=190) (gc:=100) (l:=[(0,.op 1000 0 0)]) (h:=[(1000,0,.row false (jkR e5))]) rfl ?_ ?_ ?_) ?_
  ·exact Nat.le_refl _
  iterate 2 (case _=>(first|exact yT|refine yS ?_))
  repeat (first|refine zR (ja4 @jkR.eq_1 (ja2 @Zcy.eq_1 @Zcy.eq_2) iR @de) ?_|exact zU (ja4 @jkR.eq_1 (ja2 @Zcy.eq_1 @Zcy.eq_2) iR @de))
  all_goals omega
def ZEf (r:List UInt8 × Nat × Nat):AV:=if r.2.2=0 then .agg [.sl (nl0 r.1.length) none (r.1.map u8),int (r.2.1:Int),int 0] else .agg [.sc (.slice none 0 0),int 0,int (r.2.2:Int)]
theorem ZBG {r:List UInt8 × Nat × Nat}:(ZEf r).free=true:=by
 unfold ZEf
 by_cases c:r.2.2=0
 ·rw [if_pos c];simp only [AV.free,AV.free.freeL,ZaD,int,Bool.and_self]
 ·rw [if_neg c];rfl
theorem ZBH {e:Nat} (h:e≠0):ZEf ([],0,e) = .agg [.sc (.slice none 0 0),int 0,int (e:Int)]:=by rw [ZEf,if_neg h]
theorem ZrL {o:List UInt8} {u:Nat}:ZEf (o,u,0) = .agg [.sl (nl0 o.length) none (o.map u8),int (u:Int),int 0]:=rfl
theorem ZIq:ZjN 3=(ZjN 1).bnd fun x=>(ZjN 2).bnd fun y=>.ret (x+2*y):=rfl
theorem ZDQ {b:List UInt8} {most F i:Nat} {out:List UInt8} (hi:i≤8*b.length) {x p1 e1 y p2 e2:Nat} (h1:nuS (Zah b) 1 i 0=(x,p1,e1)) (h2:nuS (Zah b) 2 p1 e1=(y,p2,e2)) :
  (e2=0∧x<2∧y<4∧p2≤8*b.length∧(ZsO most F out).run (Zah b) i=((ZrO most F out y).run (Zah b) p2).bnd fun o j=>.ok (decide (x=1),o) j)∨(e2≠0∧(ZsO most F out).run (Zah b) i = .no e2):=by
 have f1:=ZiE (b:=b) (n:=1) (i:=i) (e:=0) zO hi
 rw [h1] at f1
 have f2:=ZiE (b:=b) (n:=2) (i:=p1) (e:=e1) zO f1.2
 rw [h2] at f2
 simp only at f1 f2
 have hB:(Zah b).length=8*b.length:=Zac
 have r1:=Zpt (B:=Zah b) (n:=1) (i:=i) zO
 rw [h1] at r1
 simp only at r1
 rw [ZsO,Zal,ZIq,Zal,r1]
 by_cases q1:e1=0
 ·subst q1
  have r2:=Zpt (B:=Zah b) (n:=2) (i:=p1) zO
  rw [h2] at r2
  simp only at r2
  rw [if_pos rfl]
  simp only [BR.bnd]
  rw [Zal,r2]
  by_cases q2:e2=0
  ·refine .inl ⟨q2,f1.1,f2.1,f2.2,?_⟩
   have hx2:x<2:=f1.1
   rw [if_pos q2]
   simp only [BR.bnd,BT.run]
   rw [Zal,show (x+2*y) / 2=y by omega,show (x+2*y) % 2=x by omega]
   rfl
  ·exact .inr ⟨q2,by rw [if_neg q2];rfl⟩
 ·rw [Zyq q1] at h2
  cases h2
  exact .inr ⟨q1,by rw [if_neg q1];rfl⟩
abbrev RfX:=(Nat × List UInt8 × Nat × Nat × Nat) ⊕ (AV × AV × AV × AV × Nat × Nat)
def rfF (nb:Bool) (B:List Nat) (m:Nat):RfX→ASt
 | .inl (_,o,i,g,c)=>mk 78 c [(4,.op 4 0 0),(5,.op 19 1 0)] [(4,0,.row false [.sc (.slice none 0 0),int 0,int 0]),(19,1,.row false [.sl nb none (B.map nA),int (i:Int),.own 100 g none 0 o.length,int (m:Int),int 0]),(100,g,.row (nl0 o.length) (o.map u8))]
 | .inr (x,y,z,w,e,c)=>mk 78 c [(4,.op 4 0 0),(5,.op 19 1 0)] [(4,0,.row false [.sc (.slice none 0 0),int 0,int 0]),(19,1,.row false [x,y,z,w,int (e:Int)])]
def rfI (b:List UInt8) (m F:Nat) (r:BR (List UInt8)):RfX→Prop
 | .inl (f,o,i,_,_)=>(ZrP m F f o).run (Zah b) i=r∧i≤8*b.length∧8*b.length-i<f∧o.length≤m
 | .inr (_,_,_,_,e,_)=>r = .no e∧e≠0
def rfM:RfX→Nat
 | .inl (f,_)=>f+1
 | .inr _=>0
def BI4:=ja3 (ja2 @rfF.eq_1 @rfF.eq_2) @jkR.eq_1 iR
def BI6:=ja2 (ja2 @rfF.eq_1 @rfF.eq_2) iR
def BI13:=ja2 @List.set_cons_zero.{0} @List.set_cons_succ.{0}
set_option maxHeartbeats 4000000 in
theorem Ztx [Tabs Tryz.prog] (nl:Bool) (b:List UInt8) (hb:b.length≤40000) (most:Int) (F:Nat) (hF:8*b.length<F) :
  Con Tryz.prog ZeA [.sl nl none (b.map u8),int most] (ZEf (ZtC F b most)):=by
 refine Con.of' mix Tryz.func8 rfl Tryz.ntmps8 ZiX ZiY zB (by simp only [AV.free,AV.free.freeL,ZaD,int,Bool.and_self]) ZBG ?_
 unfold ZeC
 by_cases c1:most<0
 ·have d1:=decide_eq_true c1
  rw [show ZEf (ZtC F b most) = .agg [.sc (.slice none 0 0),int 0,int 1] by rw [ZtC,if_pos (.inl c1)];rfl]
  repeat (first|refine zR @d1 ?_|exact zU @d1)
 have d1:=decide_eq_false c1
 by_cases c2:16777216<most
 ·have d2:=decide_eq_true c2
  rw [show ZEf (ZtC F b most) = .agg [.sc (.slice none 0 0),int 0,int 1] by rw [ZtC,if_pos (.inr c2)];rfl]
  repeat (first|refine zR (ja2 @d1 @d2) ?_|exact zU (ja2 @d1 @d2))
 have d2:=decide_eq_false c2
 rw [show ZtC F b most=Zx2 F b most.toNat by rw [ZtC,if_neg zO]]
 obtain ⟨m,hm⟩:∃ m:Nat,most=(m:Int):=⟨most.toNat,by omega⟩
 subst hm
 rw [Int.toNat_natCast]
 have hm:m≤16777216:=zO
 obtain ⟨r,hr⟩:∃ r,(ZrP m F F []).run (Zah b) 0=r:=⟨_,rfl⟩
 have hse:=fun e (q:(ZrP m F F []).run (Zah b) 0 = .no e)=>ZfS (ZvH _ _) q
 rw [hr] at hse
 rw [Zx2,hr]
 have pB:=ZxV nl b zO
 obtain ⟨nb,hnb⟩:∃ nb,nb=nl0 b.length:=⟨_,rfl⟩
 rw [←hnb] at pB
 clear hnb
 have hBl:(Zah b).length=8*b.length:=Zac
 have hNum:=fun i e hi out n hn=>ZgJ nb (Zah b) (by rw [hBl];omega) ZdI m i e hi out n hn
 repeat (first|refine zR (ja2 @d1 @d2) ?_|exact zU (ja2 @d1 @d2))
 refine Zaz _ (.inl ⟨by simp only [AV.free,AV.free.freeL,ZaD,Bool.and_self],pB⟩) ?_
 iterate 1 (first|refine zS ?_|exact zT)
 refine SWp.adoptC 19 1 2 100 none (nl:=false) (cells:=[.sl nb none ((Zah b).map nA),int 0,.sc (.slice none 0 0),int (m:Int),int 0]) yT rfl (by decide) ?_
 repeat (first|refine zR BI13 ?_|exact zU BI13)
 refine SWp.loop (α:=RfX) (rfF nb (Zah b) m) (rfI b m F r) rfM (.inl (F,[],0,2,3)) ⟨hr,Nat.zero_le _,by omega,Nat.zero_le _⟩ (Zaj rfl ?_ ?_ ?_) ?_
 ·exact Nat.le_refl _
 ·(first|exact yT|refine yS ?_)
 ·(first|exact yU @Zbh|refine yR @Zbh ?_)
  rfl
 clear hr
 rintro (⟨f,o,i,g,c⟩ | ⟨j1,j2,j3,j4,e,c⟩) hI -
 ·obtain ⟨hx,hi,hf,ho⟩:=hI
  obtain ⟨f,rfl⟩:∃ f',f=f'+1:=⟨f-1,by omega⟩
  have hbk:=fun p j (q:(ZsO m F o).run (Zah b) i = .ok p j)=>ZAi hi ho q
  rw [ZrP,Zal] at hx
  have cn1:=hNum i 0 zO o 1 zO
  obtain ⟨⟨x,p1,e1⟩,h1⟩:∃ s,nuS (Zah b) 1 i 0=s:=⟨_,rfl⟩
  have f1:=ZiE (b:=b) (n:=1) (i:=i) (e:=0) zO hi
  rw [h1] at f1 cn1
  have cn2:=hNum p1 e1 (by rw [hBl];exact f1.2) o 2 zO
  obtain ⟨⟨y,p2,e2⟩,h2⟩:∃ s,nuS (Zah b) 2 p1 e1=s:=⟨_,rfl⟩
  have hh:=ZDQ (most:=m) (F:=F) (out:=o) hi h1 h2
  rw [h2] at cn2
  simp only at cn1 cn2
  clear f1 h1 h2 hNum
  unfold rfF
  rcases hh with ⟨rfl,hx2,hy4,hp2,hbl⟩ | ⟨he,hbl⟩
  ·rw [hbl] at hx hbk
   have hse:=fun e (q:(ZrO m F o y).run (Zah b) p2 = .no e)=>ZfS Zrm q
   obtain ⟨r1,hr1⟩:∃ r1,(ZrO m F o y).run (Zah b) p2=r1:=⟨_,rfl⟩
   rw [hr1] at hx hbk hse
   rw [ZrO] at hr1
   by_cases k0:y=0
   ·rw [if_pos k0] at hr1
    subst k0
    have cS:=Zvc nb b hb m hm p2 hp2 o ho r1 hr1
    repeat (first|refine zS ?_|exact zT)
    refine Zae [(19,1),(100,g)] 7000 cn1 zB zB ?_ ?_ ?_
    iterate 2 (case _=>(first|exact yU BI2|refine yR BI2 ?_))
    repeat (first|refine zR BI1 ?_|exact zU BI1)
    refine Zae [(19,1),(100,g)] 8000 cn2 zB zB ?_ ?_ ?_
    iterate 2 (case _=>(first|exact yU BI2|refine yR BI2 ?_))
    repeat (first|refine zR BI1 ?_|exact zU BI1)
    refine Zae [(19,1),(100,g)] 9000 cS zB zB ?_ ?_ ?_
    iterate 2 (case _=>(first|exact yU BI2|refine yR BI2 ?_))
    cases r1 with
    | no e =>
     have he:=(hse e rfl).1
     simp only [BR.bnd] at hx
     subst hx
     have de:decide ((e:Int)=0)=false:=decide_eq_false zO
     by_cases cx:x=1
     ·have dx:decide ((x:Int)=1)=true:=decide_eq_true zO
      repeat (first|refine zR (ja5 (ja2 @Zcy.eq_1 @Zcy.eq_2) @jkR.eq_1 iR @de @dx) ?_|exact zU (ja5 (ja2 @Zcy.eq_1 @Zcy.eq_2) @jkR.eq_1 iR @de @dx))
      refine At.of (.inr (.junk,.junk,.junk,.junk,e,_)) ⟨rfl,he⟩ (Nat.succ_pos _) rfl rfl (Nat.le_refl _) ?_ ?_
      iterate 2 (case _=>(first|exact yU BI4|refine yR BI4 ?_))
     ·have dx:decide ((x:Int)=1)=false:=decide_eq_false zO
      repeat (first|refine zR (ja5 (ja2 @Zcy.eq_1 @Zcy.eq_2) @jkR.eq_1 iR @de @dx) ?_|exact zU (ja5 (ja2 @Zcy.eq_1 @Zcy.eq_2) @jkR.eq_1 iR @de @dx))
      refine At.of (.inr (.junk,.junk,.junk,.junk,e,_)) ⟨rfl,he⟩ (Nat.succ_pos _) rfl rfl (Nat.le_refl _) ?_ ?_
      iterate 2 (case _=>(first|exact yU BI4|refine yR BI4 ?_))
    | ok o2 j =>
     simp only [BR.bnd] at hx hbk
     obtain ⟨hij,hj,ho2⟩:=hbk _ _ rfl
     by_cases cx:x=1
     ·have dx:decide ((x:Int)=1)=true:=decide_eq_true zO
      rw [decide_eq_true cx,if_pos rfl] at hx
      simp only [BT.run] at hx
      subst hx
      simp only [ZBO]
      rw [ZrL]
      obtain ⟨w,hw⟩:∃ w,w=j+7:=⟨_,rfl⟩
      have ew:(j:Int)+7=(w:Int):=zO
      rw [←hw]
      repeat (first|refine zR (ja6 (ja2 @Zcy.eq_1 @Zcy.eq_2) @stO.eq_1 @stR.eq_1 iR @dx @ew) ?_|exact zU (ja6 (ja2 @Zcy.eq_1 @Zcy.eq_2) @stO.eq_1 @stR.eq_1 iR @dx @ew))
     ·have dx:decide ((x:Int)=1)=false:=decide_eq_false zO
      rw [decide_eq_false cx,if_neg zB] at hx
      repeat (first|refine zR (ja5 (ja2 @Zcy.eq_1 @Zcy.eq_2) @stO.eq_1 @stR.eq_1 iR @dx) ?_|exact zU (ja5 (ja2 @Zcy.eq_1 @Zcy.eq_2) @stO.eq_1 @stR.eq_1 iR @dx))
      refine At.of (.inl (f,o2,j,c+1+1+200000,c+1+1+200001)) ⟨hx,hj,by omega,ho2⟩ (Nat.lt_succ_self _) rfl rfl (by simp only;omega) ?_ ?_
      ·(first|exact yU (ja2 @rfF.eq_1 @rfF.eq_2)|refine yR (ja2 @rfF.eq_1 @rfF.eq_2) ?_)
       try omega
      ·(first|exact yU BI6|refine yR BI6 ?_)
       try omega
   ·rw [if_neg k0] at hr1
    have dk0:decide ((y:Int)=0)=false:=decide_eq_false zO
    by_cases k1:y=1
    ·rw [if_pos k1] at hr1
     subst k1
     have cC:=ZqL nb (Zah b) zO ZdI m hm p2 zO o ho false false ZpO (by rw [ZbR.2.1];omega) ZbR.1 (by rw [ZbR.2.2];omega) false false Zqp (by rw [Zb5.2.1];omega) Zb5.1 (by rw [Zb5.2.2];omega) F zO r1 hr1
     have cM:=ZjH false Zqp Zb5.1 (by rw [Zb5.2.1];omega) (by rw [Zb5.2.2];omega)
     rw [show Zqp.isEmpty=false from rfl] at cM
     have cT:=Zc7 5 32 zO
     rw [show List.replicate 32 5=Zqp from rfl] at cT
     have lD:Zqp.length=32:=Zb5.2.1
     have lDt:Zqp.take 32=Zqp:=List.take_of_length_le zO
     repeat (first|refine zS ?_|exact zT)
     refine Zae [(19,1),(100,g)] 7000 cn1 zB zB ?_ ?_ ?_
     iterate 2 (case _=>(first|exact yU BI2|refine yR BI2 ?_))
     repeat (first|refine zR BI1 ?_|exact zU BI1)
     refine Zae [(19,1),(100,g)] 8000 cn2 zB zB ?_ ?_ ?_
     iterate 2 (case _=>(first|exact yU BI2|refine yR BI2 ?_))
     repeat (first|refine zR BI1 ?_|exact zU BI1)
     refine Zaz _ (.inl ⟨rfl,Zyr⟩) ?_
     repeat (first|refine zR BI1 ?_|exact zU BI1)
     refine Zae [] 9000 cT zB zB ?_ ?_ ?_
     iterate 2 (case _=>(first|exact yU BI5|refine yR BI5 ?_))
     repeat (first|refine zR BI1 ?_|exact zU BI1)
     refine Zfj 9005 (c+1+1+35) (nl:=false) (cells:=Zqp.map nA) [.sl false none (Zqp.map nA)] _ (by (first|exact yT|refine yS ?_);rfl) Zaa ?_ (by simp only [AV.free,AV.free.freeL,Zaa,Bool.and_self]) cM ?_
     ·(first|exact yU (ja4 fR iR @lD @lDt)|refine yR (ja4 fR iR @lD @lDt) ?_)
     repeat (first|refine zR BI1 ?_|exact zU BI1)
     refine Zae [(19,1),(100,g)] 10000 cC zB zB ?_ ?_ ?_
     iterate 2 (case _=>(first|exact yU BI0|refine yR BI0 ?_))
     cases r1 with
     | no e =>
      have he:=(hse e rfl).1
      simp only [BR.bnd] at hx
      subst hx
      have de:decide ((e:Int)=0)=false:=decide_eq_false zO
      by_cases cx:x=1
      ·have dx:decide ((x:Int)=1)=true:=decide_eq_true zO
       repeat (first|refine zR (ja5 (ja2 @Zcy.eq_1 @Zcy.eq_2) @jkR.eq_1 iR @de @dx) ?_|exact zU (ja5 (ja2 @Zcy.eq_1 @Zcy.eq_2) @jkR.eq_1 iR @de @dx))
       refine At.of (.inr (.junk,.junk,.junk,.junk,e,_)) ⟨rfl,he⟩ (Nat.succ_pos _) rfl rfl (Nat.le_refl _) ?_ ?_
       iterate 2 (case _=>(first|exact yU BI4|refine yR BI4 ?_))
      ·have dx:decide ((x:Int)=1)=false:=decide_eq_false zO
       repeat (first|refine zR (ja5 (ja2 @Zcy.eq_1 @Zcy.eq_2) @jkR.eq_1 iR @de @dx) ?_|exact zU (ja5 (ja2 @Zcy.eq_1 @Zcy.eq_2) @jkR.eq_1 iR @de @dx))
       refine At.of (.inr (.junk,.junk,.junk,.junk,e,_)) ⟨rfl,he⟩ (Nat.succ_pos _) rfl rfl (Nat.le_refl _) ?_ ?_
       iterate 2 (case _=>(first|exact yU BI4|refine yR BI4 ?_))
     | ok o2 j =>
      simp only [BR.bnd] at hx hbk
      obtain ⟨hij,hj,ho2⟩:=hbk _ _ rfl
      by_cases cx:x=1
      ·have dx:decide ((x:Int)=1)=true:=decide_eq_true zO
       rw [decide_eq_true cx,if_pos rfl] at hx
       simp only [BT.run] at hx
       subst hx
       simp only [ZBO]
       rw [ZrL]
       obtain ⟨w,hw⟩:∃ w,w=j+7:=⟨_,rfl⟩
       have ew:(j:Int)+7=(w:Int):=zO
       rw [←hw]
       repeat (first|refine zR (ja6 (ja2 @Zcy.eq_1 @Zcy.eq_2) @stO.eq_1 @stR.eq_1 iR @dx @ew) ?_|exact zU (ja6 (ja2 @Zcy.eq_1 @Zcy.eq_2) @stO.eq_1 @stR.eq_1 iR @dx @ew))
      ·have dx:decide ((x:Int)=1)=false:=decide_eq_false zO
       rw [decide_eq_false cx,if_neg zB] at hx
       repeat (first|refine zR (ja5 (ja2 @Zcy.eq_1 @Zcy.eq_2) @stO.eq_1 @stR.eq_1 iR @dx) ?_|exact zU (ja5 (ja2 @Zcy.eq_1 @Zcy.eq_2) @stO.eq_1 @stR.eq_1 iR @dx))
       refine At.of (.inl (f,o2,j,c+1+1+36+(1000*F+3),c+1+1+36+(1000*F+4))) ⟨hx,hj,by omega,ho2⟩ (Nat.lt_succ_self _) rfl rfl (by simp only;omega) ?_ ?_
       ·(first|exact yU (ja2 @rfF.eq_1 @rfF.eq_2)|refine yR (ja2 @rfF.eq_1 @rfF.eq_2) ?_)
        try omega
       ·(first|exact yU BI6|refine yR BI6 ?_)
        try omega
    ·rw [if_neg k1] at hr1
     have dk1:decide ((y:Int)=1)=false:=decide_eq_false zO
     by_cases k2:y=2
     ·rw [if_pos k2] at hr1
      subst k2
      have cT:=ZBF nb b hb m hm p2 hp2 o ho F hF r1 hr1
      repeat (first|refine zS ?_|exact zT)
      refine Zae [(19,1),(100,g)] 7000 cn1 zB zB ?_ ?_ ?_
      iterate 2 (case _=>(first|exact yU BI2|refine yR BI2 ?_))
      repeat (first|refine zR BI1 ?_|exact zU BI1)
      refine Zae [(19,1),(100,g)] 8000 cn2 zB zB ?_ ?_ ?_
      iterate 2 (case _=>(first|exact yU BI2|refine yR BI2 ?_))
      repeat (first|refine zR BI1 ?_|exact zU BI1)
      refine Zae [(19,1),(100,g)] 9000 cT zB zB ?_ ?_ ?_
      iterate 2 (case _=>(first|exact yU BI2|refine yR BI2 ?_))
      cases r1 with
      | no e =>
       have he:=(hse e rfl).1
       simp only [BR.bnd] at hx
       subst hx
       have de:decide ((e:Int)=0)=false:=decide_eq_false zO
       by_cases cx:x=1
       ·have dx:decide ((x:Int)=1)=true:=decide_eq_true zO
        repeat (first|refine zR (ja5 (ja2 @Zcy.eq_1 @Zcy.eq_2) @jkR.eq_1 iR @de @dx) ?_|exact zU (ja5 (ja2 @Zcy.eq_1 @Zcy.eq_2) @jkR.eq_1 iR @de @dx))
        refine At.of (.inr (.junk,.junk,.junk,.junk,e,_)) ⟨rfl,he⟩ (Nat.succ_pos _) rfl rfl (Nat.le_refl _) ?_ ?_
        iterate 2 (case _=>(first|exact yU BI4|refine yR BI4 ?_))
       ·have dx:decide ((x:Int)=1)=false:=decide_eq_false zO
        repeat (first|refine zR (ja5 (ja2 @Zcy.eq_1 @Zcy.eq_2) @jkR.eq_1 iR @de @dx) ?_|exact zU (ja5 (ja2 @Zcy.eq_1 @Zcy.eq_2) @jkR.eq_1 iR @de @dx))
        refine At.of (.inr (.junk,.junk,.junk,.junk,e,_)) ⟨rfl,he⟩ (Nat.succ_pos _) rfl rfl (Nat.le_refl _) ?_ ?_
        iterate 2 (case _=>(first|exact yU BI4|refine yR BI4 ?_))
      | ok o2 j =>
       simp only [BR.bnd] at hx hbk
       obtain ⟨hij,hj,ho2⟩:=hbk _ _ rfl
       by_cases cx:x=1
       ·have dx:decide ((x:Int)=1)=true:=decide_eq_true zO
        rw [decide_eq_true cx,if_pos rfl] at hx
        simp only [BT.run] at hx
        subst hx
        simp only [ZBO]
        rw [ZrL]
        obtain ⟨w,hw⟩:∃ w,w=j+7:=⟨_,rfl⟩
        have ew:(j:Int)+7=(w:Int):=zO
        rw [←hw]
        repeat (first|refine zR (ja6 (ja2 @Zcy.eq_1 @Zcy.eq_2) @stO.eq_1 @stR.eq_1 iR @dx @ew) ?_|exact zU (ja6 (ja2 @Zcy.eq_1 @Zcy.eq_2) @stO.eq_1 @stR.eq_1 iR @dx @ew))
       ·have dx:decide ((x:Int)=1)=false:=decide_eq_false zO
        rw [decide_eq_false cx,if_neg zB] at hx
        repeat (first|refine zR (ja5 (ja2 @Zcy.eq_1 @Zcy.eq_2) @stO.eq_1 @stR.eq_1 iR @dx) ?_|exact zU (ja5 (ja2 @Zcy.eq_1 @Zcy.eq_2) @stO.eq_1 @stR.eq_1 iR @dx))
        refine At.of (.inl (f,o2,j,c+1+1+(1000*F+500000),c+1+1+(1000*F+500001))) ⟨hx,hj,by omega,ho2⟩ (Nat.lt_succ_self _) rfl rfl (by simp only;omega) ?_ ?_
        ·(first|exact yU (ja2 @rfF.eq_1 @rfF.eq_2)|refine yR (ja2 @rfF.eq_1 @rfF.eq_2) ?_)
         try omega
        ·(first|exact yU BI6|refine yR BI6 ?_)
         try omega
     ·rw [if_neg k2] at hr1
      simp only [BT.run] at hr1
      subst hr1
      simp only [BR.bnd] at hx
      subst hx
      have dk2:decide ((y:Int)=2)=false:=decide_eq_false zO
      repeat (first|refine zS ?_|exact zT)
      refine Zae [(19,1),(100,g)] 7000 cn1 zB zB ?_ ?_ ?_
      iterate 2 (case _=>(first|exact yU BI2|refine yR BI2 ?_))
      repeat (first|refine zR BI1 ?_|exact zU BI1)
      refine Zae [(19,1),(100,g)] 8000 cn2 zB zB ?_ ?_ ?_
      iterate 2 (case _=>(first|exact yU BI2|refine yR BI2 ?_))
      repeat (first|refine zR (ja6 @stO.eq_1 @stR.eq_1 iR @dk0 @dk1 @dk2) ?_|exact zU (ja6 @stO.eq_1 @stR.eq_1 iR @dk0 @dk1 @dk2))
      by_cases cx:x=1
      ·have dx:decide ((x:Int)=1)=true:=decide_eq_true zO
       (first|exact yU (ja3 @stR.eq_1 iR @dx)|refine yR (ja3 @stR.eq_1 iR @dx) ?_)
       repeat (first|refine zR (ja3 @stR.eq_1 iR @dx) ?_|exact zU (ja3 @stR.eq_1 iR @dx))
       refine At.of (.inr (.sl nb none ((Zah b).map nA),int (p2:Int),.own 100 g none 0 o.length,int (m:Int),3,_)) ⟨rfl,by simp⟩ (Nat.succ_pos _) rfl rfl (Nat.le_refl _) ?_ ?_
       ·(first|exact yU (ja2 @rfF.eq_1 @rfF.eq_2)|refine yR (ja2 @rfF.eq_1 @rfF.eq_2) ?_)
       ·(first|exact yU BI6|refine yR BI6 ?_)
        try rfl
      ·have dx:decide ((x:Int)=1)=false:=decide_eq_false zO
       (first|exact yU (ja3 @stR.eq_1 iR @dx)|refine yR (ja3 @stR.eq_1 iR @dx) ?_)
       repeat (first|refine zR (ja3 @stR.eq_1 iR @dx) ?_|exact zU (ja3 @stR.eq_1 iR @dx))
       refine At.of (.inr (.sl nb none ((Zah b).map nA),int (p2:Int),.own 100 g none 0 o.length,int (m:Int),3,_)) ⟨rfl,by simp⟩ (Nat.succ_pos _) rfl rfl (Nat.le_refl _) ?_ ?_
       ·(first|exact yU (ja2 @rfF.eq_1 @rfF.eq_2)|refine yR (ja2 @rfF.eq_1 @rfF.eq_2) ?_)
       ·(first|exact yU BI6|refine yR BI6 ?_)
        try rfl
  ·rw [hbl] at hx
   simp only [BR.bnd] at hx
   subst hx
   have de:decide ((e2:Int)=0)=false:=decide_eq_false zO
   repeat (first|refine zS ?_|exact zT)
   refine Zae [(19,1),(100,g)] 7000 cn1 zB zB ?_ ?_ ?_
   iterate 2 (case _=>(first|exact yU BI2|refine yR BI2 ?_))
   repeat (first|refine zR BI1 ?_|exact zU BI1)
   refine Zae [(19,1),(100,g)] 8000 cn2 zB zB ?_ ?_ ?_
   iterate 2 (case _=>(first|exact yU BI2|refine yR BI2 ?_))
   simp only [ZBO]
   rw [ZBH he]
   repeat (first|refine zR (ja4 @stO.eq_1 @stR.eq_1 iR @de) ?_|exact zU (ja4 @stO.eq_1 @stR.eq_1 iR @de))
 ·obtain ⟨rfl,he⟩:=hI
  have de:decide ((e:Int)=0)=false:=decide_eq_false zO
  simp only [ZBO]
  rw [ZBH he]
  unfold rfF
  repeat (first|refine zR (ja3 @jkR.eq_1 iR @de) ?_|exact zU (ja3 @jkR.eq_1 iR @de))
theorem ZrM {P:Program} {w:World} {n:String} {d:DataW Unit}:∀ {l:List (String × DataW Unit)} {ps:List MemPlace},DataW.LaidVars P w l ps→(n,d)∈l →
  ∃ g t cs fuel p,P.globalNamed n=some g∧(P.globals[g]?).map (·.type)=some t∧w.var? P n=some cs∧DataW.trod (fun _=>()) P w 0 (fun _=>true) false fuel t cs.toList=some (d,p)
 | [],_,_,hm=>by simp at hm
 | (n',d')::r,ps,h,hm=>by
  obtain ⟨g,t,cs,fuel,p,q,h1,h2,h3,h4,h5,_⟩:=h
  rcases List.mem_cons.1 hm with e | hm
  ·cases e;exact ⟨g,t,cs,fuel,p,h1,h2,h3,h4⟩
  ·exact ZrM h5 hm
theorem ZHZ {P:Program} {W:World} {n:String} {g:Nat} {cs:Array Value} (hg:P.globalNamed n=some g) (zs:List Value) (h3:W.var? P n=some cs) (hz:cs.toList=zs) (h1:∀ v∈zs,v.oneCell'=true) :
  (all W).S g∧AV.free.freeL (zs.map AV.sc)=true∧∃ (cs:List Value) (E:TypeId) (fr:Nat × Nat),RdL ⟨(all W).S,fun _ _=>none⟩ W (zs.map AV.sc) cs∧W.heap[g]? = some (Obj.cells cs.toArray E fr)∧∀ v∈cs,v.oneCell'=true:=by
 unfold World.var? at h3
 rw [hg,Option.bind_some] at h3
 split at h3
 ·rename_i cs' E fr hheap
  simp only [Option.some.injEq] at h3
  subst h3
  exact ⟨Zhx hheap,ZzI _,zs,E,fr,Zfr _,by rw [hheap,←hz],h1⟩
 ·simp at h3
theorem Zty (l:List Nat):l.map nA=(l.map fun x:Nat=>Value.int .i64 (x:Int)).map AV.sc:=by simp only [List.map_map];rfl
theorem ZIk:(Rows.laid_drayage_inflate_tellers:DataW Unit)=Lib.tabData .i64 (Ziv.map fun x:Nat=>(x:Int)):=by kernel_rfl
theorem ZIl:(Rows.laid_drayage_deflate_tellers:DataW Unit)=Lib.tabData .i64 (Ziv.map fun x:Nat=>(x:Int)):=by kernel_rfl
theorem ZH0:Tryz.prog.globalNamed "drayage/inflate.tellers" = some 1:=by kernel_rfl
theorem ZH1:Tryz.prog.globalNamed "drayage/deflate.tellers" = some 0:=by kernel_rfl
theorem ZIr:(Tryz.prog.globals[1]?).map (·.type)=some 148:=by kernel_rfl
theorem ZIs:(Tryz.prog.globals[0]?).map (·.type)=some 148:=by kernel_rfl
@[reducible] def Zj3:Tabs Tryz.prog:=⟨fun g=>if g=1 then some (Ziv.map nA) else if g=0 then some (Ziv.map nA) else none⟩
theorem ZDR:@Tabs.tab Tryz.prog Zj3 1=some (Ziv.map nA):=rfl
theorem ZDS:@Tabs.tab Tryz.prog Zj3 0=some (Ziv.map nA):=rfl
theorem ZBI (W:World) (h:laidMetH Tryz.prog [("drayage/deflate.tellers",Rows.laid_drayage_deflate_tellers),("drayage/inflate.tellers",Rows.laid_drayage_inflate_tellers)] W):@TabOk Tryz.prog Zj3 (all W).S W:=by
 rw [MakeChecks.laidMetH_plain _ _ _ (by kernel_rfl)] at h
 obtain ⟨ps,h,_⟩:=h
 obtain ⟨g1,t1,cs1,fuel1,p1,a1,b1,c1,d1⟩:=ZrM (n := "drayage/inflate.tellers") (d:=Rows.laid_drayage_inflate_tellers) h zB
 obtain ⟨g2,t2,cs2,fuel2,p2,a2,b2,c2,d2⟩:=ZrM (n := "drayage/deflate.tellers") (d:=Rows.laid_drayage_deflate_tellers) h zB
 obtain rfl:=Option.some.inj (ZH0.symm.trans a1)
 obtain rfl:=Option.some.inj (ZIr.symm.trans b1)
 obtain rfl:=Option.some.inj (ZH1.symm.trans a2)
 obtain rfl:=Option.some.inj (ZIs.symm.trans b2)
 rw [ZIk] at d1
 rw [ZIl] at d2
 have e1:=Lib.cells_of_tab Tryz.underlying148 Tryz.underlying3 (by kernel_rfl) (by kernel_rfl) d1
 have e2:=Lib.cells_of_tab Tryz.underlying148 Tryz.underlying3 (by kernel_rfl) (by kernel_rfl) d2
 intro g xs hg
 simp only [Zj3,Tabs.tab] at hg
 split at hg
 ·rename_i e
  subst e
  cases hg
  rw [Zty]
  refine ZHZ ZH0 _ c1 (e1.trans (by rw [List.map_map];rfl)) ?_
  intro v hv
  obtain ⟨z,_,rfl⟩:=List.mem_map.1 hv
  rfl
 split at hg
 ·rename_i e
  subst e
  cases hg
  rw [Zty]
  refine ZHZ ZH1 _ c2 (e2.trans (by rw [List.map_map];rfl)) ?_
  intro v hv
  obtain ⟨z,_,rfl⟩:=List.mem_map.1 hv
  rfl
 ·simp at hg
theorem ZGm {b:List UInt8} (hb:b.length≤20000) {how:Int} (h0:0≤how) (h2:how≤2) {F:Nat} (hF:20000<F):(ZBg b how).2=0∧Zx2 F (ZBg b how).1 b.length=(b,(ZBg b how).1.length,0):=by
 have hP:=ZiA hb
 unfold ZBg
 by_cases c0:how=0
 ·rw [if_pos c0]
  have h:=ZHT (b:=b) (F:=F) zO (Nat.le_refl _) (R:=[])
  rw [List.append_nil] at h
  exact ⟨rfl,h⟩
 rw [if_neg c0]
 by_cases c1:how=1
 ·rw [if_pos c1]
  have h:=ZHQ hb (F:=F) zO (Nat.le_refl _) (R:=[])
  rw [List.append_nil] at h
  exact ⟨rfl,h⟩
 rw [if_neg c1,if_pos (show how=2 by omega)]
 have h:=ZHS hb (F:=F) zO (Nat.le_refl _) (R:=[])
 rw [List.append_nil] at h
 exact ⟨rfl,h⟩
theorem Ztz {F:Nat} {b:List UInt8} {m:Nat} (h:m≤16777216):ZtC F b (m:Int)=Zx2 F b m:=by rw [ZtC,if_neg zO,Int.toNat_natCast]
theorem ZBJ {b:List UInt8} {how:Int} (h:how<0∨2<how):ZBg b how=([],1):=by
 rw [ZBg,if_neg zO,if_neg zO,if_neg zO]
set_option maxHeartbeats 1000000 in
theorem ZnY [Tabs Tryz.prog] (htI:Tabs.tab Tryz.prog 1=some (Ziv.map nA)) (htD:Tabs.tab Tryz.prog 0=some (tlO.map nA)) (nl:Bool) (b:List UInt8) (how:Int) :
  Con Tryz.prog Zda [.sl nl none (b.map u8),int how] (boo true):=by
 refine Con.of' mix Tryz.func3 rfl Tryz.ntmps3 ZgQ ZgR zB (by simp only [AV.free,AV.free.freeL,ZaD,int,Bool.and_self]) rfl ?_
 unfold Zdh
 repeat (first|refine xS ?_|exact xT)
 refine Zaz _ (.inl ⟨rfl,ZrJ⟩) ?_
 by_cases c1:3000<(b.length:Int)
 ·have d1:=decide_eq_true c1
  repeat (first|refine xR @d1 ?_|exact xU @d1)
 have d1:=decide_eq_false c1
 have q2:=ZBh htD nl b zO how
 have fb:AV.free.freeL [.sl nl none (b.map u8),int how]=true:=by simp only [AV.free,AV.free.freeL,ZaD,int,Bool.and_self]
 by_cases c2:how<0
 ·have d2:=decide_eq_true c2
  rw [ZBJ (.inl c2),show ZH7 ([],1) = .tup [.sc (.slice none 0 0),int 1] from rfl] at q2
  repeat (first|refine xR @d1 ?_|exact xU @d1)
  refine Zaz _ (.inl ⟨fb,q2⟩) ?_
  repeat (first|refine xR @d2 ?_|exact xU @d2)
 have d2:=decide_eq_false c2
 by_cases c3:2<how
 ·have d3:=decide_eq_true c3
  rw [ZBJ (.inr c3),show ZH7 ([],1) = .tup [.sc (.slice none 0 0),int 1] from rfl] at q2
  repeat (first|refine xR @d1 ?_|exact xU @d1)
  refine Zaz _ (.inl ⟨fb,q2⟩) ?_
  repeat (first|refine xR (ja2 @d2 @d3) ?_|exact xU (ja2 @d2 @d3))
 have d3:=decide_eq_false c3
 have hlen:=ZBs (b:=b) zO (how:=how)
 obtain ⟨hf,hI⟩:=ZGm (b:=b) zO (how:=how) zO zO (F:=300000) zO
 obtain ⟨⟨X,f⟩,hr⟩:∃ r,r=ZBg b how:=⟨_,rfl⟩
 rw [←hr] at q2 hlen hf hI
 simp only at hf hlen hI
 subst hf
 rw [show ZH7 (X,0) = .tup [.sl false none (X.map u8),int 0] from rfl] at q2
 have p1:=Zrv htI false X zO zB (b.length:Int) 300000 zO
 have p2:=Ztx false X zO (b.length:Int) 300000 zO
 rw [Ztz zO,hI,ZDn,if_pos rfl] at p1
 rw [Ztz zO,hI,ZrL] at p2
 have fx:AV.free.freeL [.sl false none (X.map u8),int (b.length:Int)]=true:=by simp only [AV.free,AV.free.freeL,ZaD,int,Bool.and_self]
 have e1:decide (b=b)=true:=decide_eq_true rfl
 have e2:decide ((X.length:Int)=(X.length:Int))=true:=decide_eq_true rfl
 clear hr hI
 repeat (first|refine xR @d1 ?_|exact xU @d1)
 refine Zaz _ (.inl ⟨fb,q2⟩) ?_
 repeat (first|refine xR (ja2 @d2 @d3) ?_|exact xU (ja2 @d2 @d3))
 refine Zaz _ (.inl ⟨fx,p1⟩) ?_
 repeat (first|refine xS ?_|exact xT)
 refine Zaz _ (.inl ⟨fx,p2⟩) ?_
 repeat (first|refine xR (ja2 @e1 @e2) ?_|exact xU (ja2 @e1 @e2))
@[reducible] def Zfq:Tabs Tryz.prog:=Zj3
theorem Znc (W:World) (h:laidMetH Tryz.prog Rows.deflateBackRow.laid W):@TabOk Tryz.prog Zfq (all W).S W:=ZBI W h
theorem Zpw (nl:Bool) (b:List UInt8) (hb:b.length≤maxLen) (hn:nl=true→b=[]) (how:Int) (h3:IntKind.i64.min≤how) (h4:how≤IntKind.i64.max) :
  @Con Tryz.prog Zfq Zda [.sl nl none (b.map u8),int how] (boo true) :=
 @ZnY Zj3 ZDR (by rw [show tlO=Ziv from rfl];exact ZDS) nl b how
end Go.Proofs.YtfplkgciebjehabGreatDoor.Aw
